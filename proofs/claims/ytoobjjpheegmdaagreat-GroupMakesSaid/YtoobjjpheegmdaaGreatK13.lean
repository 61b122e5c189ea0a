/-
  Bb14.
-/
import Derived.Test.YtoobjjpheegmdaaGreatK07
import Derived.Test.YtoobjjpheegmdaaGreatK09
import Derived.Test.YtoobjjpheegmdaaGreatK10
import Derived.Test.YtoobjjpheegmdaaGreatK12
namespace Go.Proofs.YtoobjjpheegmdaaGreat.H3
open Go.RowKit Go
theorem step_skip {F : Fence} {n : Nat} {P : Program} {ops : Array Oper} {Q : Exit → Act → World → Prop} {o : Oper} {A : Act} {w : World} {K : Act → World → Prop} (h : ∃ j d b, o.guard = some (j, !b) ∧ (ops[j]?).bind (·.dst) = some d ∧ A.tmps.getD d undef = .bool b) (hk : K (A.put o.dst undef) w) :
    if Region.wanted o (yielded ops A.tmps) = true then o.wpIn F n P A w K Q else K (A.put o.dst undef) w := by
  have hwt : ¬ Region.wanted o (yielded ops A.tmps) = true := by
    obtain ⟨j, d, b, h, hd, hv⟩ := h
    unfold Region.wanted
    rw [h]
    unfold yielded
    simp only [hd, Option.bind_some]
    have e : A.tmps[d]? = some (.bool b) := by
      cases hx : A.tmps[d]? with
      | none => rw [Array.getD_eq_getD_getElem?, hx] at hv; cases hv
      | some y => rw [Array.getD_eq_getD_getElem?, hx] at hv; simpa using hv
    rw [e]
    cases b <;> simp
  rw [if_neg hwt]
  exact hk
end Go.Proofs.YtoobjjpheegmdaaGreat.H3
namespace Go.Proofs.YtoobjjpheegmdaaGreat.E4
open Go.RowKit Go
open Go.Sort (grow)
theorem Keep.below13 {G : Nat → Prop} {B : Nat} {w w' : World} (h : Keep G w w') (hG : ∀ k, G k → B ≤ k) (hB : B ≤ w.heap.size) : Below B w w' :=
  ⟨h.os, h.tape, h.output, h.size, fun k hk => h.block k (Nat.lt_of_lt_of_le hk hB) fun hg => by have := hG k hg; omega⟩
def hasE (es : List Ent) (e : Ent) : Bool := es.any fun x => decide (entC x e = 0)
theorem hasE_iff {es : List Ent} {e : Ent} : hasE es e = true ↔ e ∈ es := by
  unfold hasE
  rw [List.any_eq_true]
  constructor
  · rintro ⟨x, hx, h⟩
    rw [← entC_lc.eq _ _ (of_decide_eq_true h)]
    exact hx
  · exact fun h => ⟨e, h, decide_eq_true (entC_lc.refl e)⟩
def addE (es : List Ent) (e : Ent) : List Ent := if (e.ok && !hasE es e) = true then es ++ [e] else es
theorem addE_yes {es : List Ent} {e : Ent} (h : e.ok = true) (h2 : hasE es e = false) : addE es e = es ++ [e] := by unfold addE; rw [h, h2]; rfl
theorem addE_bad {es : List Ent} {e : Ent} (h : e.ok = false) : addE es e = es := by unfold addE; rw [h]; rfl
theorem addE_old {es : List Ent} {e : Ent} (h : hasE es e = true) : addE es e = es := by unfold addE; rw [h, Bool.not_true, Bool.and_false]; rfl
theorem addE_ways (es : List Ent) (e : Ent) : (addE es e = es ++ [e] ∧ e.ok = true ∧ e ∉ es) ∨ (addE es e = es ∧ (e.ok = false ∨ e ∈ es)) := by
  cases h : e.ok with
  | false => exact .inr ⟨addE_bad h, .inl rfl⟩
  | true =>
    cases h2 : hasE es e with
    | true => exact .inr ⟨addE_old h2, .inr (hasE_iff.1 h2)⟩
    | false => exact .inl ⟨addE_yes h h2, rfl, fun hm => by rw [hasE_iff.2 hm] at h2; cases h2⟩
theorem addE_len (es : List Ent) (e : Ent) : (addE es e).length ≤ es.length + 1 := by
  rcases addE_ways es e with ⟨h, _⟩ | ⟨h, _⟩ <;> rw [h] <;> simp
theorem addE_mem {es : List Ent} {e x : Ent} : x ∈ addE es e ↔ x ∈ es ∨ (x = e ∧ e.ok = true) := by
  rcases addE_ways es e with ⟨h, h1, h2⟩ | ⟨h, h1⟩ <;> rw [h]
  · rw [List.mem_append, List.mem_singleton]
    exact ⟨fun h3 => h3.imp id fun h4 => ⟨h4, h1⟩, fun h3 => h3.imp id fun h4 => h4.1⟩
  · constructor
    · exact .inl
    · rintro (h3 | ⟨rfl, h3⟩)
      · exact h3
      · rcases h1 with h1 | h1
        · rw [h1] at h3; cases h3
        · exact h1
def addAll (es : List Ent) (l : List Ent) : List Ent := l.foldl addE es
theorem addAll_mem {l : List Ent} : ∀ {es : List Ent} {x : Ent}, x ∈ addAll es l ↔ x ∈ es ∨ (x ∈ l ∧ x.ok = true) := by
  induction l with
  | nil => intro es x; simp [addAll]
  | cons e r ih =>
    intro es x
    show x ∈ addAll (addE es e) r ↔ _
    rw [ih, addE_mem, List.mem_cons]
    constructor
    · rintro ((h | ⟨rfl, h⟩) | ⟨h1, h2⟩)
      · exact .inl h
      · exact .inr ⟨.inl rfl, h⟩
      · exact .inr ⟨.inr h1, h2⟩
    · rintro (h | ⟨rfl | h1, h2⟩)
      · exact .inl (.inl h)
      · exact .inl (.inr ⟨rfl, h2⟩)
      · exact .inr ⟨h1, h2⟩
theorem addAll_len {l : List Ent} : ∀ {es : List Ent}, (addAll es l).length ≤ es.length + l.length := by
  induction l with
  | nil => intro es; simp [addAll]
  | cons e r ih =>
    intro es
    have h1 := ih (es := addE es e)
    have h2 := addE_len es e
    show (addAll (addE es e) r).length ≤ _
    simp only [List.length_cons]
    omega
theorem addAll_take (es : List Ent) (l : List Ent) (i : Nat) (h : i < l.length) : addAll es (l.take (i + 1)) = addE (addAll es (l.take i)) l[i] := by
  unfold addAll
  rw [← List.take_append_getElem h, List.foldl_append]
  rfl
theorem infoL : (Tryz.prog.info? 86).map (fun i => (i.zero, i.size, i.bytes)) = some (some (.agg #[.string ⟨#[]⟩, .string ⟨#[]⟩]), 2, 32) := by kernel_rfl
theorem elemL : ∃ i z, Elem Tryz.prog 30 86 i z 2 32 := by
  obtain ⟨i, hi, hz, hs, hb⟩ := info_parts infoL
  exact ⟨i, _, Tryz.underlying30, hi, hz, hs, hb, by kernel_rfl⟩
def flatL : List Lab → List Value
  | [] => []
  | m :: l => .string m.n :: .string m.v :: flatL l
theorem flatL_len : ∀ l : List Lab, (flatL l).length = l.length * 2
  | [] => rfl
  | _ :: l => by simp only [flatL, List.length_cons]; rw [flatL_len l]; omega
theorem flatL_get : ∀ (l : List Lab) (i : Nat) (h : i < l.length), (flatL l)[i * 2]? = some (.string l[i].n) ∧ (flatL l)[i * 2 + 1]? = some (.string l[i].v)
  | x :: l, 0, _ => ⟨rfl, rfl⟩
  | x :: l, i + 1, h => by
    have := flatL_get l i (by simpa using h)
    have e : (i + 1) * 2 = i * 2 + 1 + 1 := by omega
    rw [e]
    exact this
theorem labs_of_rk {G : Nat → Prop} {w : World} {v : Value} {l : List Lab} (h : Rk 2 G w v l.length (flatL l)) (hl : l.length ≤ 1000000) : LabsAt G w v l := by
  obtain ⟨hn, ⟨rfl, h0⟩ | ⟨g, cap, rfl, hg, hlt, _, _, hc, _⟩⟩ := h
  · have : l = [] := List.eq_nil_of_length_eq_zero h0
    subst this
    exact ⟨none, 0, rfl, by simp, .inl rfl⟩
  · refine ⟨_, cap, rfl, by omega, .inr ⟨g, 0, rfl, hg, hlt, fun i hi => ?_⟩⟩
    obtain ⟨e0, e1⟩ := flatL_get l i hi
    have hz := flatL_len l
    refine ⟨?_, ?_⟩
    · rw [Nat.zero_add, hc _ (by omega), e0]
    · rw [Nat.zero_add, hc _ (by omega), e1]
theorem labs_src {G : Nat → Prop} {w : World} {v : Value} {l : List Lab} (h : LabsAt G w v l) : Src Tryz.prog 2 30 v l.length (flatL l) w := by
  obtain ⟨a, cap, rfl, -, hc⟩ := h
  have hone : ∀ u ∈ flatL l, u.oneCell' = true := by
    clear hc
    induction l with
    | nil => intro u hu; cases hu
    | cons m l ih =>
      intro u hu
      simp only [flatL, List.mem_cons] at hu
      rcases hu with rfl | rfl | hu
      · rfl
      · rfl
      · exact ih u hu
  rcases hc with rfl | ⟨b, off, rfl, _, hb, hc⟩
  · cases a with
    | none => exact Src.ofNil _ Tryz.underlying30 cap
    | some p => exact Src.ofSlice _ Tryz.underlying30 p 0 cap [] (by simp) (fun j u hu => by simp at hu) (fun u hu => by simp at hu)
  · refine Src.ofSlice _ Tryz.underlying30 ⟨b, off, none⟩ l.length cap (flatL l) (flatL_len l) (fun j u hu => ?_) hone
    have hj : j < l.length * 2 := by have := (List.getElem?_eq_some_iff.1 hu).1; rwa [flatL_len] at this
    have hi : j / 2 < l.length := by omega
    obtain ⟨g0, g1⟩ := flatL_get l (j / 2) hi
    obtain ⟨h0, h1⟩ := hc (j / 2) hi
    rw [add_lit]
    have hm : j = j / 2 * 2 ∨ j = j / 2 * 2 + 1 := by omega
    rcases hm with e | e
    · rw [e] at hu ⊢; rw [g0] at hu; rw [← hu]; exact h0
    · rw [e] at hu ⊢; rw [g1] at hu; rw [← hu]; exact h1
set_option maxHeartbeats 1000000 in
set_option maxRecDepth 100000 in
theorem cloneL_any {G : Nat → Prop} {w : World} {v : Value} {l : List Lab} (h : LabsAt G w v l) (hn : l.length ≤ 1000000) :
    Calls Tryz.prog 36 #[v] w fun e w' => ∃ v', e = .returned v' ∧ LabsAt (fun k => w.heap.size ≤ k) w' v' l ∧ Lay w w' := by
  obtain ⟨i0, z0, E0⟩ := elemL
  have qs : ∀ (w : World) (a : Option Addr) (n c n' c' : Nat), (binOp .eql 30 (.slice a n c) (.slice none n' c')).run Tryz.prog w = .ok (.bool a.isNone) w := fun w a n c n' c' => Lib.run_eql_slice_nil w _ _ a n c n' c' Tryz.underlying30
  have HSS := Lib.hid (fun w1 (hl : Lay w w1) => labs_src (h.lay hl))
  obtain ⟨a, cap, rfl, hn63, hc⟩ := id h
  clear h
  cases a with
  | none =>
    have h0 : l = [] := by
      rcases hc with h0 | ⟨b, off, h0, _⟩
      · exact h0
      · cases h0
    have HZ := Lib.hid h0
    clear hc h0 HSS
    go_enter Tryz.func36, Tryz.ntmps36
    go_wp2
    go_ret
    refine ⟨.slice none 0 0, rfl, ?_, Keep.refl _ _⟩
    rw [HZ.out]; exact LabsAt.nil _ _
  | some p =>
    clear hc
    have HS2 := Lib.hid (HSS.out (w.alloc (.cells #[] 86)) ((Keep.refl _ _).alloc _))
    clear HSS
    go_enter Tryz.func36, Tryz.ntmps36
    go_wp2_with (at_builtin; refine wpList_append_rk E0 _ rfl _ _ 30 rfl (G := fun k => w.heap.size ≤ k) rfl ((rk_new 2 w 0 [] 86 rfl (by omega)).mono (fun k hk _ => Nat.le_of_eq hk.symm)) ?c1 _ l.length (flatL l) rfl HS2.out ?c2 ?c3 ?_)
    case c1 => intro k hk; simp at hk; omega
    case c2 => omega
    case c3 => omega
    intro v' w1 hrk hk
    have HK := Lib.hid hrk
    have hk2 : Keep (fun k => w.heap.size ≤ k) (w.alloc (.cells #[] 86)) w1 := hk.into (fun b _ hb => by
      obtain ⟨n, c, e⟩ := hb
      simp only [Value.slice.injEq, Option.some.injEq, Addr.mk.injEq, and_true] at e
      omega)
    have hlay : Lay w w1 := Keep.into (Keep.trans ((Keep.refl (fun k => w.heap.size ≤ k) w).alloc _) hk2) (fun k hlt hk => by omega)
    have HLY := Lib.hid hlay
    clear hrk hk hk2 hlay
    go_wp2
    go_ret
    refine ⟨v', rfl, labs_of_rk ?_ hn, HLY.out⟩
    have := HK.out.mono (G' := fun k => w.heap.size ≤ k) (fun k hk _ => hk.1)
    simpa using this
theorem operIn_append13 {F : Fence} {nn : Nat} {P : Program} {o : Oper} {a : Act} {w w' : World} {K : Act → World → Prop} {Q : Exit → Act → World → Prop} {sv xv v' : Value} (s x : Operand) (t : TypeId)
    (ho : o.op = .call { callee := .builtin .append, args := #[s, x], argTypes := #[t, t] }) (hs : a.eval s = sv) (hx : a.eval x = xv) (hrun : (Builtin.append_ #[t, t] o.type #[sv, xv]).run P w = .ok v' w') (hK : K (a.put o.dst v') w') : o.wpIn F nn P a w K Q := by
  unfold Oper.wpIn
  refine ⟨?_, ?_⟩
  · simp [Oper.about, ho, resolve, Target.leads, Sem.run_pure]
  · rw [Oper.semAt_plain F _ _ (by rw [ho]; intro c hc'; cases hc')]
    simp [execOp, ho, resolve, invoke, builtin, hs, hx, hrun, Result.andThen]
    exact hK
theorem operIn_update13 {F : Fence} {nn : Nat} {P : Program} {o : Oper} {a : Act} {w w' : World} {K : Act → World → Prop} {Q : Exit → Act → World → Prop} {mv xv vv : Value} (m x v : Operand) (t : TypeId)
    (ho : o.op = Op.mapUpdate t m x v) (hm : a.eval m = mv) (hx : a.eval x = xv) (hv : a.eval v = vv) (hrun : (Instr.mapUpdate t mv xv vv).run P w = .ok () w') (hK : K (a.put o.dst undef) w') : o.wpIn F nn P a w K Q := by
  unfold Oper.wpIn
  refine ⟨?_, ?_⟩
  · simp [Oper.about, ho]
  · rw [Oper.semAt_plain F _ _ (by rw [ho]; intro c hc'; cases hc')]
    simp [execOp, ho, hm, hx, hv, hrun, Result.andThen]
    exact hK
theorem gvq_keep {cs : List (Option Value)} {S : List Nat} {sp : Nat → Value → World → Prop} {i j : Nat} {ys : Nat → Value} {v : Value} {w w' : World} (hS : j ∉ S) (hij : i ≠ j) (h : GV cs S sp j ys w) : GV cs S sp j (H3.upd ys i v) w' := by
  unfold GV at h ⊢
  rw [if_neg hS] at h ⊢
  intro u hu
  rw [H3.upd_other ys v (Ne.symm hij)]
  exact h u hu
theorem foldl_bytes (ns : List UInt8) : (ns.map fun b => (b.toNat : Int)).foldl (fun (r : ByteArray) n => r.push (UInt8.ofNat n.toNat)) ByteArray.empty = ⟨ns.toArray⟩ := by
  rw [foldl_push_bytes]
  simp [Function.comp_def]
theorem bs_string {B : Nat} {w : World} {v : Value} {l : List UInt8} (h : Bs B w v l) : (convert 100 9 v).run Tryz.prog w = .ok (.string ⟨l.toArray⟩) w := by
  rcases h with ⟨rfl, rfl⟩ | ⟨g, cap, rfl, hBg, hg, hlc, hm, hc, hf⟩
  · rw [run_convert_bytes_string (P := Tryz.prog) w 100 9 5 none 0 0 Tryz.underlying100 Tryz.underlying5 Tryz.underlying9]
    rfl
  · rw [run_convert_bytes_string (P := Tryz.prog) w 100 9 5 _ _ _ Tryz.underlying100 Tryz.underlying5 Tryz.underlying9, run_bytesToString (P := Tryz.prog) w ⟨g, 0, none⟩ l.length cap (l.map fun b => (b.toNat : Int)), foldl_bytes]
    have e : ((l.map fun b => (b.toNat : Int)).map (Value.int .u8)) = cellsOf l := by simp [cellsOf]
    rw [e]
    have := run_firstCells_some (P := Tryz.prog) w 1 l.length ⟨g, 0, none⟩ l.length cap (cellsOf l) (by rw [cellsOf_length]; omega) (fun j u hu => by
      have hj : j < l.length := by
        have := (List.getElem?_eq_some_iff.1 hu).1
        rwa [cellsOf_length] at this
      have e : (⟨g, 0, none⟩ : Addr).add j = ⟨g, j, none⟩ := by unfold Addr.add; split <;> simp_all
      rw [e, hc j hj, hu])
    simpa [Builtin.firstCells] using this
theorem By.bs {G : Nat → Prop} {w : World} {v : Value} {l : List UInt8} (h : By G w v l) : Bs 0 w v l := by
  obtain ⟨_, ⟨h1, h2⟩ | ⟨g, cap, h1, _, h2, h3, h4, h5, h6⟩⟩ := h
  · exact .inl ⟨h1, List.eq_nil_of_length_eq_zero h2⟩
  · exact .inr ⟨g, cap, h1, Nat.zero_le _, h2, h3, h4, fun j hj => h5 j (by rw [cellsOf_length]; exact hj), fun j hj => h6 j (by omega)⟩
theorem Sorts.len13 {desc : Bool} {es out : List Ent} (h : Sorts (ordC desc) es out) : out.length ≤ es.length := by
  have hnd : out.Nodup := h.1.imp fun {a b} hab e => by
    subst e
    rw [(ordC_lc desc).refl] at hab
    cases hab
  have key : ∀ {l m : List Ent}, l.Nodup → (∀ x ∈ l, x ∈ m) → l.length ≤ m.length := by
    intro l
    induction l with
    | nil => intro m _ _; exact Nat.zero_le _
    | cons x r ih =>
      intro m h hs
      rw [List.nodup_cons] at h
      obtain ⟨s, t, rfl⟩ := List.append_of_mem (hs x (by simp))
      have h1 := ih (m := s ++ t) h.2 fun y hy => by
        have h2 := hs y (List.mem_cons_of_mem _ hy)
        have h3 : y ≠ x := fun e => h.1 (e ▸ hy)
        simp only [List.mem_append, List.mem_cons] at h2 ⊢
        rcases h2 with h2 | h2 | h2
        · exact .inl h2
        · exact absurd h2 h3
        · exact .inr h2
      simp only [List.length_append, List.length_cons] at h1 ⊢
      omega
  exact key hnd fun x hx => (h.2 x).1 hx
theorem great_no {a : Ask} (h : a.great = false) : a.all.length ≤ 1000 ∧ (∀ l ∈ a.all, l.length ≤ 1000) ∧ a.mat.length ≤ 1000 ∧ ∀ l ∈ a.all, ∀ s ∈ l, s.size ≤ 100000 := by
  unfold Ask.great at h
  simp only [Bool.or_eq_false_iff, decide_eq_false_iff_not] at h
  obtain ⟨⟨⟨h1, h2⟩, h3⟩, _⟩ := h
  have h4 : ∀ l ∈ a.all, bigL l = false := fun l hl => by
    cases e : bigL l with
    | false => rfl
    | true => rw [List.any_eq_true.2 ⟨l, hl, e⟩] at h3; cases h3
  refine ⟨by omega, fun l hl => ?_, by omega, fun l hl s hs => ?_⟩
  · have := h4 l hl
    unfold bigL at this
    simp only [Bool.or_eq_false_iff, decide_eq_false_iff_not] at this
    omega
  · have := h4 l hl
    unfold bigL bigW at this
    simp only [Bool.or_eq_false_iff, decide_eq_false_iff_not] at this
    have h5 := this.2
    by_cases e : 2000 < s.size
    · rw [List.any_eq_true.2 ⟨s, hs, decide_eq_true e⟩] at h5; cases h5
    · omega
theorem Rk.setD {k : Nat} {G : Nat → Prop} {w : World} {g n cap : Nat} {xs : List Value} (h : Rk k G w (.slice (some ⟨g, 0, none⟩) n cap) n xs) (j0 : Nat) (hk : j0 < n * k) (u : Value) : Rk k G (w.setCell ⟨g, j0, none⟩ u) (.slice (some ⟨g, 0, none⟩) n cap) n (xs.set j0 u) := by
  obtain ⟨h0, ⟨h, _⟩ | ⟨g', cap', he, hG, hlt, hn, hm, hc, hf⟩⟩ := h
  · cases h
  · obtain ⟨rfl, rfl⟩ : g' = g ∧ cap' = cap := by simpa [eq_comm] using he
    have hsome := hf j0 (Nat.lt_of_lt_of_le hk (Nat.mul_le_mul_right k hn))
    refine ⟨by rw [List.length_set]; exact h0, .inr ⟨g', cap', rfl, hG, by simpa [World.setCell] using hlt, hn, hm, fun j hj => ?_, fun j hj => ?_⟩⟩
    · rw [List.length_set] at hj
      by_cases e : j0 = j
      · subst e
        rw [List.getElem?_set_self hj]
        have hs := hsome.1
        go_simp
      · rw [List.getElem?_set_ne e, ← hc j hj]
        go_simp
    · have := hf j hj
      refine ⟨?_, (World.frozen?_setCell _ _ _ _).trans this.2⟩
      by_cases e : j0 = j
      · subst e
        have hs := this.1
        go_simp
      · have hs := this.1
        go_simp
theorem flatR_set : ∀ (S : List (Value × Ent)) (i : Nat) (_ : i < S.length) (x : Value × Ent), flatR (S.set i x) = (((flatR S).set (i * 3) (.int .i64 x.2.tm)).set (i * 3 + 1) x.1).set (i * 3 + 2) (.string x.2.line)
  | y :: S, 0, _, x => rfl
  | y :: S, i + 1, h, x => by
    have e : (i + 1) * 3 = i * 3 + 1 + 1 + 1 := by omega
    rw [e]
    show rawC y ++ flatR (S.set i x) = _
    rw [flatR_set S i (by simpa using h) x]
    rfl
theorem sub_len {l m : List Ent} (h : l.Nodup) (hs : ∀ x ∈ l, x ∈ m) : l.length ≤ m.length := by
  induction l generalizing m with
  | nil => exact Nat.zero_le _
  | cons x r ih =>
    rw [List.nodup_cons] at h
    obtain ⟨s, t, rfl⟩ := List.append_of_mem (hs x (by simp))
    have h1 := ih (m := s ++ t) h.2 fun y hy => by
      have h2 := hs y (List.mem_cons_of_mem _ hy)
      have h3 : y ≠ x := fun e => h.1 (e ▸ hy)
      simp only [List.mem_append, List.mem_cons] at h2 ⊢
      rcases h2 with h2 | h2 | h2
      · exact .inl h2
      · exact absurd h2 h3
      · exact .inr h2
    simp only [List.length_append, List.length_cons] at h1 ⊢
    omega
noncomputable def chosen (P : List Ent → Prop) : List Ent := @dite _ (∃ s, P s) (Classical.propDecidable _) (fun h => Classical.choose h) (fun _ => [])
theorem chosen_ok {P : List Ent → Prop} (h : ∃ s, P s) : P (chosen P) := by
  unfold chosen
  rw [dif_pos h]
  exact Classical.choose_spec h
noncomputable def srtOf (desc : Bool) (l : List Ent) : List Ent := chosen fun s => Sorts (ordC desc) l s
theorem srtOf_eq {desc : Bool} {l s : List Ent} (h : Sorts (ordC desc) l s) : srtOf desc l = s :=
  Sorts.unique (ordC_lc desc) (chosen_ok (P := fun s => Sorts (ordC desc) l s) ⟨s, h⟩) h fun _ => Iff.rfl
theorem src_entN {e : Ent} {w : World} {al : Option Addr} {cl : Nat} : Src Tryz.prog 3 43 (.slice (some ⟨w.heap.size, 0, none⟩) 1 1) 1 (flatR [((.slice al e.labs.length cl : Value), e)]) (w.alloc (.cells #[.int .i64 e.tm, .slice al e.labs.length cl, .string e.line] 32)) :=
  Rk.src Tryz.underlying43 (rk_new 3 w 1 (flatR [((.slice al e.labs.length cl : Value), e)]) 32 rfl (by omega)) (fun u hu => by
    simp only [flatR, rawC, List.append_nil, List.mem_cons, List.not_mem_nil, or_false] at hu
    rcases hu with rfl | rfl | rfl <;> rfl)
end Go.Proofs.YtoobjjpheegmdaaGreat.E4
