/-
  A QUERY'S KEY: norm.Key.
-/
import Derived.Test.YtkckgjanfiiieaaGreatDoorIn10
import Derived.Test.YtkckgjanfiiieaaGreatDoorNm10
import Derived.Test.YtkckgjanfiiieaaGreatDoorKl8
import Derived.Test.YtkckgjanfiiieaaGreatDoorKd8
import Derived.Test.YtkckgjanfiiieaaGreatDoorQn10
import Derived.Test.YtkckgjanfiiieaaGreatDoorPl8
namespace Go.Proofs.YtkckgjanfiiieaaGreatDoor
open Go

/-- What holds of each part of a filter. -/
inductive Lv (P : Int → ByteArray → ByteArray → Prop) : Ft → Prop
  | mk (o : Int) (n t : ByteArray) (k : List Ft) (h : P o n t) (hk : ∀ x ∈ k, Lv P x) : Lv P (.mk o n t k)

theorem Lv.here {P : Int → ByteArray → ByteArray → Prop} {o : Int} {n t : ByteArray} {k : List Ft} (h : Lv P (.mk o n t k)) : P o n t := by cases h; assumption
theorem Lv.kids {P : Int → ByteArray → ByteArray → Prop} {o : Int} {n t : ByteArray} {k : List Ft} (h : Lv P (.mk o n t k)) : ∀ x ∈ k, Lv P x := by cases h; assumption
theorem Lv.kids' {P : Int → ByteArray → ByteArray → Prop} {f : Ft} (h : Lv P f) : ∀ x ∈ f.kids, Lv P x := by
  obtain ⟨o, n, t, k⟩ := f
  exact h.kids

section
variable {P : Int → ByteArray → ByteArray → Prop} (hP : ∀ o : Int, (o = 1 ∨ o = 2 ∨ o = 6 ∨ o = 7 ∨ o = 8) → P o Nr.e0 Nr.e0)
include hP

theorem nots_lv {f : Ft} (h : Nr.Gd f) : Lv P f → ∀ b, Lv P (Nr.nots b f) := by
  induction h with
  | const o h => intro _ b; rw [Nr.nots_const b o h]; exact .mk _ _ _ _ (hP _ (by cases b <;> simp <;> omega)) (fun _ h => by cases h)
  | leaf o n t h =>
    intro hf b
    rw [Nr.nots_leaf b o n t h]
    cases b
    · exact hf
    · exact .mk _ _ _ _ (hP _ (by omega)) (fun x hx => by rw [List.mem_singleton] at hx; rw [hx]; exact hf)
  | not x _ ih => intro hf b; rw [Nr.nots_not]; exact ih (hf.kids x (by simp)) _
  | row o k h _ _ ih =>
    intro hf b
    rw [Nr.nots_row b o k h]
    refine .mk _ _ _ _ (hP _ (by cases b <;> simp <;> omega)) fun x hx => ?_
    obtain ⟨y, hy, rfl⟩ := List.mem_map.1 hx
    exact ih y hy (hf.kids y hy) b

omit hP in
theorem part_lv {o : Int} {x : Ft} (h : Lv P x) : ∀ y ∈ Nr.part o x, Lv P y := by
  intro y hy
  unfold Nr.part at hy
  split at hy
  · exact Lv.kids' h y hy
  · split at hy
    · rw [List.mem_singleton] at hy; rw [hy]; exact h
    · simp at hy

theorem foldRow_lv {o : Int} (ho : o = 7 ∨ o = 8) {xs : List Ft} (h : ∀ x ∈ xs, Lv P x) : Lv P (Nr.foldRow o xs) := by
  unfold Nr.foldRow
  split
  · rename_i x hf
    exact h x (List.mem_of_find?_eq_some hf)
  · have hp : ∀ y ∈ xs.flatMap (Nr.part o), Lv P y := fun y hy => by
      obtain ⟨x, hx, hy⟩ := List.mem_flatMap.1 hy
      exact part_lv (h x hx) y hy
    split
    · exact .mk _ _ _ _ (hP _ (by unfold Nr.counts; split <;> omega)) (fun _ h => by cases h)
    · rename_i x he
      exact hp x (by rw [he]; simp)
    · rename_i x y r he
      rw [he] at hp
      exact .mk _ _ _ _ (hP _ (by omega)) hp

theorem fold_lv {f : Ft} (h : Nr.Nn f) : Lv P f → Lv P (Nr.fold f) := by
  induction h with
  | const o h => intro hf; rw [Nr.fold, if_pos (by omega)]; exact hf
  | leaf o n t h => intro hf; rw [Nr.fold, if_pos (by omega)]; exact hf
  | not o n t h => intro hf; rw [Nr.fold, if_pos (by omega)]; exact hf
  | row o k h hk ih =>
    intro hf
    rw [Nr.fold, if_neg (by omega), Nr.foldL_map]
    refine foldRow_lv hP h fun x hx => ?_
    obtain ⟨y, hy, rfl⟩ := List.mem_map.1 hx
    exact ih y hy (hf.kids y hy)

theorem norm_lv {f : Ft} (h : Nr.Gd f) (hf : Lv P f) : Lv P (Nr.norm f) := fold_lv hP (Nr.nots_nn h false) (nots_lv hP h hf false)
end

/-- What texts ask of each part. -/
def TP (o : Int) (n t : ByteArray) : Prop :=
  ((o = 1 ∨ o = 2 ∨ o = 3 ∨ o = 4 ∨ o = 6 ∨ o = 7 ∨ o = 8) → n = ⟨#[]⟩) ∧ ((o = 1 ∨ o = 2 ∨ o = 6 ∨ o = 7 ∨ o = 8) → t = ⟨#[]⟩) ∧
    (o = 3 ∨ o = 4 ∨ o = 5 → LX.isText t.data.toList = true) ∧ (o = 5 → MW.name n.data.toList = true ∧ LX.isWord n.data.toList = false) ∧ n.size ≤ 100000 ∧ t.size ≤ 100000

theorem TP.made (o : Int) (h : o = 1 ∨ o = 2 ∨ o = 6 ∨ o = 7 ∨ o = 8) : TP o Nr.e0 Nr.e0 :=
  ⟨fun _ => rfl, fun _ => rfl, fun h' => by omega, fun h' => by omega, by decide, by decide⟩

mutual
theorem lv_of : ∀ f : Ft, PX.Can f → PX.TOk f → Sm 100000 f → Lv TP f
  | .mk o n t k, hc, ht, hs => by
    rw [PX.Can] at hc
    rw [PX.TOk] at ht
    rw [Sm] at hs
    obtain ⟨t1, t2, t3⟩ := ht
    obtain ⟨s1, s2, s3⟩ := hs
    have hcs : PX.Cans k := by
      rcases hc with ⟨_, _, _, rfl⟩ | ⟨_, _, rfl⟩ | ⟨_, rfl⟩ | ⟨_, _, _, _, h⟩ | ⟨_, _, _, _, h⟩
      · rw [PX.Cans]; trivial
      · rw [PX.Cans]; trivial
      · rw [PX.Cans]; trivial
      · exact h
      · exact h
    refine .mk _ _ _ _ ⟨fun h => ?_, fun h => ?_, t1, t2, s1, s2⟩ (lvs_of k hcs t3 s3)
    · rcases hc with ⟨_, h, _⟩ | ⟨_, h, _⟩ | ⟨h5, _⟩ | ⟨_, h, _⟩ | ⟨_, h, _⟩
      · exact h
      · exact h
      · omega
      · exact h
      · exact h
    · rcases hc with ⟨_, _, h, _⟩ | ⟨h3, _⟩ | ⟨h5, _⟩ | ⟨_, _, h, _⟩ | ⟨_, _, h, _⟩
      · exact h
      · omega
      · omega
      · exact h
      · exact h
theorem lvs_of : ∀ l : List Ft, PX.Cans l → PX.TOks l → Sms 100000 l → ∀ x ∈ l, Lv TP x
  | [], _, _, _, x, hx => by cases hx
  | k :: r, hc, ht, hs, x, hx => by
    rw [PX.Cans] at hc
    rw [PX.TOks] at ht
    rw [Sms] at hs
    have h1 := lv_of k hc.1 ht.1 hs.1
    have h2 := lvs_of r hc.2 ht.2 hs.2
    rcases List.mem_cons.1 hx with e | hx
    · rw [e]; exact h1
    · exact h2 x hx
end

theorem cans_of : ∀ {l : List Ft}, (∀ x ∈ l, PX.Can x) → PX.Cans l
  | [], _ => by rw [PX.Cans]; trivial
  | k :: r, h => by rw [PX.Cans]; exact ⟨h k (by simp), cans_of fun x hx => h x (by simp [hx])⟩
theorem toks_of : ∀ {l : List Ft}, (∀ x ∈ l, PX.TOk x) → PX.TOks l
  | [], _ => by rw [PX.TOks]; trivial
  | k :: r, h => by rw [PX.TOks]; exact ⟨h k (by simp), toks_of fun x hx => h x (by simp [hx])⟩

theorem in_can {f : Ft} (h : Nr.In f) : Lv TP f → PX.Can f ∧ PX.TOk f := by
  have leaf : ∀ (o : Int) (n t : ByteArray), (o = 3 ∨ o = 4 ∨ o = 5) → Lv TP (.mk o n t []) → PX.Can (.mk o n t []) ∧ PX.TOk (.mk o n t []) := fun o n t h hl => by
    obtain ⟨h1, h2, h3, h4, _, _⟩ := hl.here
    rw [PX.Can, PX.TOk, PX.TOks]
    refine ⟨?_, h3, h4, trivial⟩
    rcases h with h | h | h
    · exact .inr (.inl ⟨.inl h, h1 (by omega), rfl⟩)
    · exact .inr (.inl ⟨.inr h, h1 (by omega), rfl⟩)
    · exact .inr (.inr (.inl ⟨h, rfl⟩))
  induction h with
  | leaf o n t h => exact leaf o n t h
  | not o n t h =>
    intro hl
    obtain ⟨a, b⟩ := leaf o n t h (hl.kids _ (by simp))
    rw [PX.Can, PX.TOk]
    exact ⟨.inr (.inr (.inr (.inl ⟨rfl, rfl, rfl, rfl, cans_of fun x hx => by rw [List.mem_singleton] at hx; rw [hx]; exact a⟩))), fun h => by omega, fun h => by omega, toks_of fun x hx => by rw [List.mem_singleton] at hx; rw [hx]; exact b⟩
  | row o k h h2 hk ho ih =>
    intro hl
    rw [PX.Can, PX.TOk]
    exact ⟨.inr (.inr (.inr (.inr ⟨h, rfl, rfl, h2, cans_of fun x hx => (ih x hx (hl.kids x hx)).1⟩))), fun h => by omega, fun h => by omega, toks_of fun x hx => (ih x hx (hl.kids x hx)).2⟩

theorem pl_can {f : Ft} (h : Nr.Pl f) (hl : Lv TP f) : PX.Can f ∧ PX.TOk f := by
  rcases h with rfl | rfl | h
  · rw [PX.Can, PX.TOk, PX.TOks]
    exact ⟨.inl ⟨.inl rfl, rfl, rfl, rfl⟩, fun h => by omega, fun h => by omega, trivial⟩
  · rw [PX.Can, PX.TOk, PX.TOks]
    exact ⟨.inl ⟨.inr rfl, rfl, rfl, rfl⟩, fun h => by omega, fun h => by omega, trivial⟩
  · exact in_can h hl

mutual
theorem lv_sm : ∀ f : Ft, Lv TP f → Sm 100000 f ∧ PX.tl f ≤ 300030 * f.count
  | .mk o n t k, h => by
    obtain ⟨_, _, _, _, h5, h6⟩ := h.here
    obtain ⟨a, b⟩ := lvs_sm k h.kids
    rw [Sm, PX.tl, Ft.count]
    exact ⟨⟨h5, h6, a⟩, by omega⟩
theorem lvs_sm : ∀ l : List Ft, (∀ x ∈ l, Lv TP x) → Sms 100000 l ∧ PX.tls l ≤ 300030 * Ft.counts l
  | [], _ => by rw [Sms, PX.tls, Ft.counts]; exact ⟨trivial, by omega⟩
  | x :: r, h => by
    obtain ⟨a, b⟩ := lv_sm x (h x (by simp))
    obtain ⟨c, d⟩ := lvs_sm r (fun y hy => h y (by simp [hy]))
    rw [Sms, PX.tls, Ft.counts]
    exact ⟨⟨a, c⟩, by omega⟩
end

/-! ### How deep rows stand -/

mutual
/-- How many rows stand within one another. -/
def rd : Ft → Nat
  | .mk o _ _ k => (if 7 ≤ o then 1 else 0) + rds k
def rds : List Ft → Nat
  | [] => 0
  | x :: r => max (rd x) (rds r)
end

theorem rds_le : ∀ {l : List Ft} {c : Nat}, (∀ x ∈ l, rd x ≤ c) → rds l ≤ c
  | [], _, _ => by rw [rds]; omega
  | x :: r, c, h => by
    rw [rds]
    have h1 := h x (by simp)
    have h2 := rds_le (l := r) (c := c) fun y hy => h y (by simp [hy])
    omega
theorem rd_mem : ∀ {l : List Ft} {x : Ft}, x ∈ l → rd x ≤ rds l
  | y :: r, x, h => by
    rw [rds]
    rcases List.mem_cons.1 h with rfl | h
    · omega
    · have := rd_mem h; omega
theorem dns_le : ∀ {l : List Ft} {c : Nat}, (∀ x ∈ l, PX.dk x ≤ c) → PX.dns l ≤ c
  | [], _, _ => by rw [PX.dns]; omega
  | x :: r, c, h => by
    rw [PX.dns]
    have h1 := h x (by simp)
    unfold PX.dk at h1
    have h2 := dns_le (l := r) (c := c) fun y hy => h y (by simp [hy])
    omega

theorem rd_dk {f : Ft} (h : Nr.Gd f) : rd f ≤ PX.dk f := by
  induction h with
  | const o h => rw [rd, rds, if_neg (by omega)]; omega
  | leaf o n t h => rw [rd, rds, if_neg (by omega)]; omega
  | not x _ ih =>
    rw [rd, if_neg (by omega), rds, rds]
    have := PX.dk_le (l := [x]) (k := x) (by simp)
    unfold PX.dk
    rw [if_neg (by show ¬ (7 : Int) ≤ 6; decide), PX.dn, if_pos rfl]
    omega
  | row o k h _ _ ih =>
    rw [rd, if_pos (by omega)]
    have : rds k ≤ PX.dns k := rds_le fun x hx => Nat.le_trans (ih x hx) (PX.dk_le hx)
    unfold PX.dk
    rw [if_pos (show 7 ≤ (Ft.mk o Nr.e0 Nr.e0 k).op by show 7 ≤ o; omega), PX.dn, if_neg (by omega)]
    omega

theorem nots_rd {f : Ft} (h : Nr.Gd f) : ∀ b, rd (Nr.nots b f) ≤ rd f := by
  induction h with
  | const o h => intro b; rw [Nr.nots_const b o h, rd, rds, if_neg (by cases b <;> simp <;> omega)]; omega
  | leaf o n t h =>
    intro b
    rw [Nr.nots_leaf b o n t h]
    cases b
    · exact Nat.le_refl _
    · simp only [if_true]
      rw [rd, rds, rds, rd, rds, if_neg (by omega), if_neg (by omega)]
      omega
  | not x _ ih =>
    intro b
    rw [Nr.nots_not, rd, if_neg (by omega), rds, rds]
    have := ih (!b)
    omega
  | row o k h _ _ ih =>
    intro b
    rw [Nr.nots_row b o k h, rd, if_pos (by cases b <;> simp <;> omega), rd, if_pos (by omega)]
    have : rds (k.map (Nr.nots b)) ≤ rds k := rds_le fun x hx => by
      obtain ⟨y, hy, rfl⟩ := List.mem_map.1 hx
      exact Nat.le_trans (ih y hy b) (rd_mem hy)
    omega

theorem part_rd {o : Int} {x : Ft} : ∀ y ∈ Nr.part o x, rd y ≤ rd x := by
  intro y hy
  unfold Nr.part at hy
  split at hy
  · obtain ⟨o, n, t, k⟩ := x
    have : rd y ≤ rds k := rd_mem hy
    rw [rd]
    omega
  · split at hy
    · rw [List.mem_singleton] at hy; rw [hy]; exact Nat.le_refl _
    · simp at hy

theorem foldRow_rd {o : Int} (ho : o = 7 ∨ o = 8) {xs : List Ft} {c : Nat} (h : ∀ x ∈ xs, rd x ≤ c) : rd (Nr.foldRow o xs) ≤ 1 + c := by
  unfold Nr.foldRow
  split
  · rename_i x hf
    have := h x (List.mem_of_find?_eq_some hf)
    omega
  · have hp : ∀ y ∈ xs.flatMap (Nr.part o), rd y ≤ c := fun y hy => by
      obtain ⟨x, hx, hy⟩ := List.mem_flatMap.1 hy
      exact Nat.le_trans (part_rd y hy) (h x hx)
    split
    · rw [rd, rds, if_neg (by unfold Nr.counts; split <;> omega)]; omega
    · rename_i x he
      have := hp x (by rw [he]; simp)
      omega
    · rename_i x y r he
      rw [he] at hp
      rw [rd, if_pos (by omega)]
      have := rds_le hp
      omega

theorem fold_rd {f : Ft} (h : Nr.Nn f) : rd (Nr.fold f) ≤ rd f := by
  induction h with
  | const o h => rw [Nr.fold, if_pos (by omega)]; exact Nat.le_refl _
  | leaf o n t h => rw [Nr.fold, if_pos (by omega)]; exact Nat.le_refl _
  | not o n t h => rw [Nr.fold, if_pos (by omega)]; exact Nat.le_refl _
  | row o k h hk ih =>
    rw [Nr.fold, if_neg (by omega), Nr.foldL_map]
    have := foldRow_rd h (xs := k.map Nr.fold) (c := rds k) fun x hx => by
      obtain ⟨y, hy, rfl⟩ := List.mem_map.1 hx
      exact Nat.le_trans (ih y hy) (rd_mem hy)
    rw [rd, if_pos (by omega)]
    omega

theorem in_dk {f : Ft} (h : Nr.In f) : PX.dk f ≤ rd f + 1 := by
  induction h with
  | leaf o n t h =>
    unfold PX.dk
    rw [if_neg (by show ¬ 7 ≤ o; omega), PX.dn, if_neg (by omega), PX.dns]
    omega
  | not o n t h =>
    unfold PX.dk
    rw [if_neg (by show ¬ (7 : Int) ≤ 6; decide), PX.dn, if_pos rfl]
    have : PX.dns [Ft.mk o n t []] ≤ 0 := dns_le fun x hx => by
      rw [List.mem_singleton] at hx
      rw [hx]
      unfold PX.dk
      rw [if_neg (by show ¬ 7 ≤ o; omega), PX.dn, if_neg (by omega), PX.dns]
      omega
    omega
  | row o k h _ _ _ ih =>
    unfold PX.dk
    rw [if_pos (show 7 ≤ (Ft.mk o Nr.e0 Nr.e0 k).op by show 7 ≤ o; omega), PX.dn, if_neg (by omega), rd, if_pos (by omega)]
    have : PX.dns k ≤ rds k + 1 := dns_le fun x hx => Nat.le_trans (ih x hx) (by have := rd_mem hx; omega)
    omega

theorem pl_dn {f : Ft} (h : Nr.Pl f) : PX.dn f ≤ rd f + 1 := by
  rcases h with rfl | rfl | h
  · rw [PX.dn, if_neg (by decide), PX.dns]; omega
  · rw [PX.dn, if_neg (by decide), PX.dns]; omega
  · have := in_dk h
    unfold PX.dk at this
    split at this <;> omega

theorem norm_dn {f : Ft} (h : Nr.Gd f) : PX.dn (Nr.norm f) ≤ PX.dk f + 1 := by
  have h1 := pl_dn (Nr.norm_pl h)
  have h2 := fold_rd (Nr.nots_nn h false)
  have h3 := nots_rd h false
  have h4 := rd_dk h
  have e : Nr.norm f = Nr.fold (Nr.nots false f) := rfl
  rw [e] at h1 ⊢
  omega

/-! ### Queries made of numbers -/

theorem query_gd' (l : List Int) : Nr.Gd (Qy.query l).fil ∧ PX.dk (Qy.query l).fil ≤ 6 := by
  unfold Qy.query
  simp only
  split
  · exact ⟨.const 1 (.inl rfl), by decide⟩
  · exact ⟨Nr.make_gd l 3 _, (PX.make_can l 3 _).2⟩

theorem query_lv (l : List Int) : Lv TP (Qy.query l).fil := lv_of _ (PX.query_can l).fil (PX.query_tok l).fil (query_wr l).sm

/-- The plain form of a query made of numbers. -/
structure MadeN (q : Qy) : Prop where
  can : PX.CanQ q
  tok : PX.TOkQ q
  wr : Wr q
  len : (fText q.fil).length ≤ 1000000000
  page : q.page = ⟨#[]⟩

theorem normM_mem {l : List Mt} {m : Mt} : m ∈ normM l ↔ m ∈ l := Nr.nub_mem ordM l m

theorem made_normQ (l : List Int) : MadeN (normQ (Qy.query l)) := by
  have hc := PX.query_can l
  have ht := PX.query_tok l
  have hw := query_wr l
  have hv := query_lv l
  have hn := Qy.query_count l
  obtain ⟨hg, hd⟩ := query_gd' l
  generalize Qy.query l = q at hc ht hw hv hn hg hd
  have hlv := norm_lv TP.made hg hv
  obtain ⟨c1, c2⟩ := pl_can (Nr.norm_pl hg) hlv
  obtain ⟨s1, s2⟩ := lv_sm _ hlv
  have hcost := filter_cost _ (Nr.norm q.fil) (Nat.le_refl _) c1
  have hcnt := Nr.norm_count hg
  have hlen : (fText (Nr.norm q.fil)).length ≤ 1000000000 := by omega
  have hml : (normM q.mat).length ≤ q.mat.length := Nr.nub_length _
  have hdn := norm_dn hg
  refine ⟨⟨hc.f0, hc.t1, hc.ft, Nat.le_trans hml hc.ms, c1, by show PX.dn (Nr.norm q.fil) ≤ 8; omega, hc.l0, hc.l1⟩, ⟨fun m hm => ht.ms m (normM_mem.1 hm), c2, by show LX.isText [] = true; decide⟩,
    ⟨c1, s1, by show (fText (Nr.norm q.fil)).length ≤ _; omega, Nat.le_trans hml hw.mats, fun m hm => hw.mat m (normM_mem.1 hm), hw.src0, hw.src1, hw.til0, hw.til1, hw.lim0, hw.lim1, by show (0 : Nat) ≤ _; omega⟩, hlen, rfl⟩

/-- Two such queries have one text just if they are the same. -/
theorem plain_inj {p q : Qy} (hp : MadeN p) (hq : MadeN q) (h : plainT p = plainT q) : p = q := by
  refine PX.text_inj hp.can hp.tok hq.can hq.tok (PX.num_it _ hp.wr.src0 hp.wr.src1) (PX.num_it _ hp.wr.til0 hp.wr.til1) (PX.num_it _ hp.wr.lim0 hp.wr.lim1) (PX.num_it _ hq.wr.src0 hq.wr.src1) (PX.num_it _ hq.wr.til0 hq.wr.til1) (PX.num_it _ hq.wr.lim0 hq.wr.lim1) ?_
  rw [qsp_spell hp.can.fil, qsp_spell hq.can.fil, if_pos hp.page, if_pos hq.page, h]

end Go.Proofs.YtkckgjanfiiieaaGreatDoor

namespace Go.Proofs.YtkckgjanfiiieaaGreatDoor
open Go.RowKit Go

/-- The text that a key is. -/
def keyT (q : Qy) : ByteArray := ⟨(plainT (normQ q)).toArray⟩

set_option maxHeartbeats 4000000 in
set_option maxRecDepth 100000 in
theorem ownKey_any (q : Qy) (hg : Nr.Gd q.fil) (hc : q.fil.count ≤ 40000) (hm : q.mat.length ≤ 100000) (hn : MadeN (normQ q)) (w : World) (v : Value) (hq : QAt w v q) (hT : Tabs w) :
    Calls Tryz.prog 13 #[v] w fun e w' => e = .returned (.string (keyT q)) ∧ Below w.heap.size w w' := by
  obtain ⟨mv, kv, rfl, hmat, hks⟩ := id hq
  obtain ⟨am, cm, rfl, hm63, hmc⟩ := hmat
  obtain ⟨ak, ck, rfl⟩ := hks.shape
  have hl0 : Lay w (w.alloc (.cells #[.int .i64 q.src, .int .i64 q.til, .slice am q.mat.length cm, .int .i64 q.fil.op, .string q.fil.name, .string q.fil.text, .slice ak q.fil.kids.length ck, .bool q.desc, .int .i64 q.lim, .string q.page] 30)) := (Keep.refl _ _).alloc _
  have HQ := Lib.hid (ownQ_any q hg hc hm _ _ (hq.lay hl0))
  have HL0 := Lib.hid hl0
  have HT := Lib.hid hT
  have HN := Lib.hid hn
  clear hq hmc hks hl0 hT hn
  unfold Qy.val at HQ
  unfold Qy.val
  go_enter Tryz.func13, Tryz.ntmps13
  go_wp2_with fail
  refine HQ.out.mono ?_
  rintro e w1 ⟨vq, rfl, ⟨mv, kv, rfl, hm1, hk1⟩, hl1⟩
  obtain ⟨am1, cm1, rfl, _, _⟩ := id hm1
  obtain ⟨ak1, ck1, rfl⟩ := hk1.shape
  have HL1 := Lib.hid (Keep.trans HL0.out hl1)
  have HP := Lib.hid (ownPlain_any (normQ q) HN.out.wr HN.out.len (plain_len HN.out.wr) w1 am1 cm1 ak1 ck1 hm1 hk1 (HT.out.next (Lay.below HL1.out)))
  clear hm1 hk1 hl1 HQ
  unfold Qy.val
  go_wp2_with fail
  refine HP.out.mono ?_
  rintro e w2 ⟨TX, rfl, hTX, hb2⟩
  have HB2 := Lib.hid ((Lay.below HL1.out).trans (hb2.mono HL1.out.size))
  have hte : TX = keyT q := by
    unfold keyT
    rw [← hTX]
  subst hte
  clear hTX hb2 HP
  go_wp2_with fail
  go_ret
  exact ⟨rfl, HB2.out⟩

end Go.Proofs.YtkckgjanfiiieaaGreatDoor
