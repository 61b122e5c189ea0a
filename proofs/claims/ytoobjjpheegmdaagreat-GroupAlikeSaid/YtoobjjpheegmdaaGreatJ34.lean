/-
  Kq15, Fo15.
-/
import Derived.Test.YtoobjjpheegmdaaGreatJ11
import Derived.Test.YtoobjjpheegmdaaGreatJ06
import Derived.Test.YtoobjjpheegmdaaGreatJ33
namespace Go.Proofs.YtoobjjpheegmdaaGreat.E4
open Go.RowKit Go
def Ask.gd (a : Ask) : Bool := timeOK a.src && timeOK a.til
def inT5 (src til : Int) (e : Ent) : Bool := decide (src ≤ e.tm) && decide (e.tm ≤ til)
theorem inT_no {src til : Int} {e : Ent} (h : e.tm < src ∨ til < e.tm) : inT5 src til e = false := by
  unfold inT5
  rcases h with h | h
  · rw [decide_eq_false (by omega), Bool.false_and]
  · rw [decide_eq_false (p := e.tm ≤ til) (by omega), Bool.and_false]
theorem inT_yes {src til : Int} {e : Ent} (h1 : ¬ e.tm < src) (h2 : ¬ til < e.tm) : inT5 src til e = true := by
  unfold inT5
  rw [decide_eq_true (by omega), decide_eq_true (by omega)]
  rfl
theorem times3 {a : Ask} (h : a.kd = 3) : a.times = .tuple #[.int .i64 a.src, .int .i64 a.til, .bool true] := by unfold Ask.times Ask.timed; rw [decide_eq_true (by omega)]; rfl
set_option maxHeartbeats 4000000 in
set_option maxRecDepth 100000 in
theorem ownGood3 (a : Ask) (hk : a.kd = 3) (x y : Option Addr) (n c m d : Nat) (w : World) :
    Calls Tryz.prog 75 #[a.dyn (.slice x n c) (.slice y m d)] w fun x w' => x = .returned (.bool a.gd) ∧ Below w.heap.size w w' := by
  have q4 := is63_no78
  have r3 := is76_no78
  have HT := Lib.hid (times_any a x y n c m d w)
  rw [times3 hk] at HT
  obtain ⟨dv, hdv⟩ : ∃ v, v = a.dyn (.slice x n c) (.slice y m d) := ⟨_, rfl⟩
  rw [← hdv] at HT ⊢
  rw [dyn3 hk] at hdv
  have HDV := Lib.hid hdv
  have HTA := Lib.hid (time_any a.src)
  have HTB := Lib.hid (time_any a.til)
  clear hdv hk
  cases e1 : timeOK a.src with
  | false =>
    have HNO : Hid (a.gd = false) := Lib.hid (by unfold Ask.gd; rw [e1]; rfl)
    rw [e1] at HTA
    clear e1
    go_enter Tryz.func75, Tryz.ntmps75
    go_wp2_with (first | (go_at_call 84; refine HT.out.mono ?_; rintro x w2 ⟨rfl, hb2⟩) | (go_at_call 33; refine (HTA.out _).mono ?_; rintro x w3 ⟨rfl, rfl⟩))
    go_ret
    exact ⟨by rw [HNO.out]; rfl, hb2⟩
  | true =>
  cases e2 : timeOK a.til with
  | false =>
    have HNO : Hid (a.gd = false) := Lib.hid (by unfold Ask.gd; rw [e1, e2]; rfl)
    rw [e1] at HTA
    rw [e2] at HTB
    clear e1 e2
    go_enter Tryz.func75, Tryz.ntmps75
    go_wp2_with (first | (go_at_call 84; refine HT.out.mono ?_; rintro x w2 ⟨rfl, hb2⟩) | (go_at_call 33; (first | (with_reducible refine (HTA.out _).mono ?_) | (with_reducible refine (HTB.out _).mono ?_)); rintro x w3 ⟨rfl, hx3⟩; have hx4 := Eq.symm hx3; clear hx3; subst hx4))
    go_ret
    exact ⟨by rw [HNO.out]; rfl, hb2⟩
  | true =>
  have HG : Hid (a.gd = true) := Lib.hid (by unfold Ask.gd; rw [e1, e2]; rfl)
  rw [e1] at HTA
  rw [e2] at HTB
  clear e1 e2
  go_enter Tryz.func75, Tryz.ntmps75
  go_upto_region 5 with (first | (go_at_call 84; refine HT.out.mono ?_; rintro x w2 ⟨rfl, hb2⟩; have HB2 := Lib.hid hb2; clear hb2) | (go_at_call 33; (first | (with_reducible refine (HTA.out _).mono ?_) | (with_reducible refine (HTB.out _).mono ?_)); rintro x w3 ⟨rfl, hx3⟩; have hx4 := Eq.symm hx3; clear hx3; subst hx4))
  have hdv := HDV.out
  subst hdv
  go_wp2_with fail
  go_ret
  exact ⟨by rw [HG.out]; rfl, HB2.out⟩
set_option maxHeartbeats 4000000 in
set_option maxRecDepth 100000 in
theorem ownKeeps3 (a : Ask) (hk : a.kd = 3) (x y : Option Addr) (n c m d : Nat) (e : Ent) (al : Option Addr) (nl cl : Nat) (w : World) :
    Calls Tryz.prog 180 #[a.dyn (.slice x n c) (.slice y m d), .agg #[.int .i64 e.tm, .slice al nl cl, .string e.line]] w fun x w' => x = .returned (.bool (inT5 a.src a.til e)) ∧ Below w.heap.size w w' := by
  have q4 := is63_no78
  have r3 := is76_no78
  obtain ⟨w1, hw1⟩ : ∃ w1, w1 = w.alloc (.cells #[.int .i64 e.tm, .slice al nl cl, .string e.line] 32) := ⟨_, rfl⟩
  have hb1 : Below w.heap.size w w1 := by rw [hw1]; exact (Below.refl _ w).alloc (Nat.le_refl _) _
  have hk1 : Bl w1 w.heap.size 32 #[.int .i64 e.tm, .slice al nl cl, .string e.line] := by rw [hw1]; exact Bl.new w 32 _
  have HT := Lib.hid (times_any a x y n c m d w1)
  rw [times3 hk] at HT
  obtain ⟨dv, hdv⟩ : ∃ v, v = a.dyn (.slice x n c) (.slice y m d) := ⟨_, rfl⟩
  rw [← hdv] at HT ⊢
  rw [dyn3 hk] at hdv
  have HDV := Lib.hid hdv
  have HW1 := Lib.hid hw1.symm
  have HB1 := Lib.hid hb1
  have HK1 := Lib.hid hk1
  clear hdv hk hw1 hb1 hk1
  by_cases k1 : e.tm < a.src
  · have HNO : Hid (inT5 a.src a.til e = false) := Lib.hid (inT_no (.inl k1))
    go_enter Tryz.func180, Tryz.ntmps180
    go_upto_region 1 with fail
    rw [HW1.out]
    go_wp2_with (go_at_call 84; refine HT.out.mono ?_; rintro x w2 ⟨rfl, hb2⟩; have HB2 := Lib.hid (below_mid12 HB1.out hb2); have c0 := (HK1.out.below hb2).cell 0; simp only [List.getElem?_toArray, List.getElem?_cons_zero] at c0; clear hb2)
    go_ret
    exact ⟨by rw [HNO.out]; rfl, HB2.out⟩
  by_cases k2 : a.til < e.tm
  · have HNO : Hid (inT5 a.src a.til e = false) := Lib.hid (inT_no (.inr k2))
    go_enter Tryz.func180, Tryz.ntmps180
    go_upto_region 1 with fail
    rw [HW1.out]
    go_wp2_with (go_at_call 84; refine HT.out.mono ?_; rintro x w2 ⟨rfl, hb2⟩; have HB2 := Lib.hid (below_mid12 HB1.out hb2); have c0 := (HK1.out.below hb2).cell 0; simp only [List.getElem?_toArray, List.getElem?_cons_zero] at c0; clear hb2)
    go_ret
    exact ⟨by rw [HNO.out]; rfl, HB2.out⟩
  have HG : Hid (inT5 a.src a.til e = true) := Lib.hid (inT_yes k1 k2)
  go_enter Tryz.func180, Tryz.ntmps180
  go_upto_region 1 with fail
  rw [HW1.out]
  go_upto_region 5 with (go_at_call 84; refine HT.out.mono ?_; rintro x w2 ⟨rfl, hb2⟩; have HB2 := Lib.hid (below_mid12 HB1.out hb2); have c0 := (HK1.out.below hb2).cell 0; simp only [List.getElem?_toArray, List.getElem?_cons_zero] at c0; clear hb2)
  have hdv := HDV.out
  subst hdv
  go_wp2_with fail
  go_ret
  exact ⟨by rw [HG.out]; rfl, HB2.out⟩
end Go.Proofs.YtoobjjpheegmdaaGreat.E4
namespace Go.Proofs.YtoobjjpheegmdaaGreat.E4
open Go.RowKit Go Go.Shelf
attribute [local go_sem] Oper.semAt_some wide_fn wide_depth
theorem wpListIn_append_rk {F : Fence} {nn : Nat} {P : Program} {t e : TypeId} {i : TypeInfo} {z : Value} {k bytes : Nat} (E : Elem P t e i z k bytes) (w : World) {ops : Array Oper} {rest : List Oper} {o : Oper} {a : Act} {Q : Exit → Act → World → Prop} (hgd : o.guard = none) (s x : Operand) (tx : TypeId)
    (ho : o.op = .call { callee := .builtin .append, args := #[s, x], argTypes := #[t, tx] })
    {G : Nat → Prop} {v : Value} {n : Nat} {xs : List Value} (hv : a.eval s = v) (h : Rk k G w v n xs) (hG : ∀ k, w.heap.size ≤ k → G k)
    (xv : Value) (m : Nat) (ys : List Value) (hx : a.eval x = xv) (hs : Src P k tx xv m ys w) (hb : (n + m) * bytes ≤ 140737488355328) (hl : n + m ≤ 140737488355328)
    (hK : ∀ v' w', Rk k (fun k => G k ∧ (At v k ∨ w.heap.size ≤ k)) w' v' (n + m) (xs ++ ys) → Keep (At v) w w' → wpListIn F nn P ops Q rest (a.put o.dst v') w') : wpListIn F nn P ops Q (o :: rest) a w := by
  refine wpListIn_plain hgd fun K hK' => ?_
  obtain ⟨v', w', hrun, h1, h2⟩ := run_append_rk E h hG tx o.type xv m ys hs hb hl
  unfold Oper.wpIn
  refine ⟨?_, ?_⟩
  · simp [Oper.about, ho, resolve, Target.leads, Sem.run_pure]
  · rw [Oper.semAt_plain F _ _ (by rw [ho]; intro c hc'; cases hc')]
    simp [execOp, ho, resolve, invoke, builtin, hv, hx, hrun, Result.andThen]
    exact hK' _ _ (hK v' w' h1 h2)
theorem Rk.kept {k : Nat} {G H : Nat → Prop} {W W' : World} {v : Value} {n : Nat} {xs : List Value} (h : Rk k G W v n xs) (hk : IT.Keep H W W') (hn : ∀ b, At v b → ¬ H b) : Rk k G W' v n xs := h.carry hk.size fun b _ ha hlt => hk.block b hlt (hn b ha)
theorem RawL.kept {L H : Nat → Prop} {W W' : World} {R : List (Value × Ent)} (h : RawL L W R) (hk : IT.Keep H W W') (hn : ∀ b, L b → b < W.heap.size → ¬ H b) : RawL L W' R := fun x hx => (h x hx).kept hk hn
def FoJ (AB : Nat) (dv : Value) (p : Ent → Bool) (pre : List Ent) : IT.Stance := fun G W =>
  ∃ v R, IT.Box W AB 20 dv ∧ IT.Box W (AB + 1) 43 v ∧ Rk 3 (fun b => AB + 2 ≤ b) W v R.length (flatR R) ∧ RawL (fun b => G b ∧ ¬ At v b ∧ b ≠ AB ∧ b ≠ AB + 1) W R ∧ R.map Prod.snd = pre.filter p ∧ (∀ b, b = AB ∨ b = AB + 1 ∨ At v b → G b) ∧ (∀ b, G b → AB ≤ b)
theorem FoJ.stable (AB : Nat) (dv : Value) (p : Ent → Bool) (pre : List Ent) : IT.Stable (FoJ AB dv p pre) := by
  rintro G W W' ⟨v, R, h1, h2, h3, h4, h5, h6, h7⟩ _ hk
  exact ⟨v, R, h1.keep hk (fun h => h (h6 _ (.inl rfl))), h2.keep hk (fun h => h (h6 _ (.inr (.inl rfl)))), h3.kept hk (fun b hb h => h (h6 _ (.inr (.inr hb)))), h4.kept hk (fun b hb _ h => h hb.1), h5, h6, h7⟩
theorem filter_snoc (p : Ent → Bool) (pre : List Ent) (x : Ent) : (pre ++ [x]).filter p = pre.filter p ++ if p x = true then [x] else [] := by
  rw [List.filter_append, List.filter_cons]
  cases p x <;> rfl
theorem FoJ.more {AB : Nat} {dv : Value} {p : Ent → Bool} {pre : List Ent} {x : Ent} {lv : Value} {G1 own : Nat → Prop} {W w8 w9 : World} {v v' : Value} {R : List (Value × Ent)} (h1 : IT.Box W AB 20 dv) (h2 : IT.Box W (AB + 1) 43 v) (h3 : Rk 3 (fun b => AB + 2 ≤ b) W v R.length (flatR R)) (h4 : RawL (fun b => G1 b ∧ ¬ At v b ∧ b ≠ AB ∧ b ≠ AB + 1) W R)
    (h5 : R.map Prod.snd = pre.filter p) (h6 : ∀ b, b = AB ∨ b = AB + 1 ∨ At v b → G1 b) (h7 : ∀ b, G1 b → AB ≤ b) (hlx : LabsAt own W lv x.labs) (hdis : ∀ b, own b → ¬ G1 b) (hown : ∀ b, own b → b < W.heap.size ∧ AB ≤ b) (hlive : IT.Live G1 W) (hpx : p x = true)
    (hl8 : IT.Lay W w8) (hk9 : Keep (At v) w8 w9) (hrk : Rk 3 (fun k => AB + 2 ≤ k ∧ (At v k ∨ w8.heap.size ≤ k)) w9 v' (R.length + 1) (flatR R ++ flatR [(lv, x)])) :
    IT.Box w9 (AB + 1) 43 v ∧ IT.Next (FoJ AB dv p (pre ++ [x])) (fun k => G1 k ∨ own k) W (w9.setCell ⟨AB + 1, 0, none⟩ v') := by
  have hno : ∀ b, At v b → AB + 2 ≤ b := fun b hb => (h3.at hb).1
  have hk9' : IT.Keep (At v) w8 w9 := IT.Keep.of hk9
  have hkW : IT.Keep (At v) W w9 := (IT.Lay.keep hl8).trans hk9'
  have hb1 : IT.Box w9 AB 20 dv := h1.keep hkW (fun h => by have := hno _ h; omega)
  have hb2 : IT.Box w9 (AB + 1) 43 v := h2.keep hkW (fun h => by have := hno _ h; omega)
  have hks : IT.Keep (fun k => k = AB + 1) w9 (w9.setCell ⟨AB + 1, 0, none⟩ v') := IT.keep_setCell w9 (AB + 1) v' rfl
  have hKall : IT.Keep (fun k => At v k ∨ k = AB + 1) W (w9.setCell ⟨AB + 1, 0, none⟩ v') := (hkW.into fun _ _ h => .inl h).trans (hks.into fun _ _ h => .inr h)
  have hAt' : ∀ k, At v' k → At v k ∨ W.heap.size ≤ k := fun k hk => (hrk.at hk).1.2.imp id fun h => Nat.le_trans hl8.size h
  have hsz : W.heap.size ≤ (w9.setCell ⟨AB + 1, 0, none⟩ v').heap.size := hKall.size
  refine ⟨hb2, IT.Next.mk (fun k => G1 k ∨ own k ∨ At v' k) ⟨v', R ++ [(lv, x)], hb1.keep hks (fun h => by omega), hb2.set v', ?_, ?_, ?_, ?_, ?_⟩ ?_ ?_ ?_⟩
  · rw [List.length_append, List.length_singleton, flatR_append]
    exact (hrk.mono fun k h _ => h.1).kept hks (fun b hb h => by have := (hrk.at hb).1.1; omega)
  · intro y hy
    rcases List.mem_append.1 hy with hy | hy
    · refine ((h4 y hy).kept hKall fun b hb _ h => h.elim hb.2.1 hb.2.2.2).mono fun b hb hlt => ⟨.inl hb.1, fun h => ?_, hb.2.2.1, hb.2.2.2⟩
      rcases hAt' b h with h | h
      · exact hb.2.1 h
      · have := hlive b hb.1; omega
    · obtain rfl := List.mem_singleton.1 hy
      refine (hlx.kept hKall fun b hb _ h => ?_).mono fun b hb hlt => ⟨.inr (.inl hb), fun h => ?_, fun h => ?_, fun h => ?_⟩
      · exact h.elim (fun h => hdis b hb (h6 b (.inr (.inr h)))) (fun h => hdis b hb (h6 b (.inr (.inl h))))
      · rcases hAt' b h with h | h
        · exact hdis b hb (h6 b (.inr (.inr h)))
        · have := (hown b hb).1; omega
      · exact hdis b hb (h6 b (.inl h))
      · exact hdis b hb (h6 b (.inr (.inl h)))
  · rw [List.map_append, h5, filter_snoc, if_pos hpx]
    rfl
  · rintro b (h | h | h)
    · exact .inl (h6 b (.inl h))
    · exact .inl (h6 b (.inr (.inl h)))
    · exact .inr (.inr h)
  · rintro b (h | h | h)
    · exact h7 b h
    · exact (hown b h).2
    · have := (hrk.at h).1.1; omega
  · rintro b (h | h | h)
    · exact Nat.lt_of_lt_of_le (hlive b h) hsz
    · exact Nat.lt_of_lt_of_le (hown b h).1 hsz
    · exact Nat.lt_of_lt_of_le (hrk.at h).2 hks.size
  · rintro b (h | h | h)
    · exact .inl (.inl h)
    · exact .inl (.inr h)
    · rcases hAt' b h with h | h
      · exact .inl (.inl (h6 b (.inr (.inr h))))
      · exact .inr h
  · exact hKall.into fun b _ h => .inl (h.elim (fun h => h6 b (.inr (.inr h))) (fun h => h6 b (.inr (.inl h))))
set_option maxHeartbeats 8000000 in
set_option maxRecDepth 100000 in
theorem found5_any {w : World} {B gb : Nat} {es : List Ent} (h : EngAt5 w B gb es) (a : Ask) (hk : a.kd = 3) (qx qy : Option Addr) (qn qc qm qd : Nat) (hn : es.length ≤ 1000) :
    Calls Tryz.prog 177 #[.pointer (some ⟨gb, 0, none⟩), a.dyn (.slice qx qn qc) (.slice qy qm qd)] w fun z w' => ∃ v, z = .returned v ∧ EntsAt (fun b => w.heap.size ≤ b) (fun b => w.heap.size ≤ b) w' v (es.filter (inT5 a.src a.til)) ∧ Below w.heap.size w w' := by
  have hmx : Tryz.prog.follows .mixedOrders = true := by kernel_rfl
  obtain ⟨i24, z24, E24⟩ := elem24
  obtain ⟨tv, hE⟩ := h
  have HKP := Lib.hid (ownKeeps3 a hk qx qy qn qc qm qd)
  obtain ⟨p, hp⟩ : ∃ p, p = inT5 a.src a.til := ⟨_, rfl⟩
  rw [← hp] at HKP ⊢
  rw [dyn3 hk] at HKP ⊢
  obtain ⟨W0, hW0⟩ : ∃ W0, W0 = ((w.alloc (.cells #[.iface 78 (.agg #[.int .i64 a.src, .int .i64 a.til])] 20)).alloc (.cells #[.slice none 0 0] 43)) := ⟨_, rfl⟩
  obtain ⟨W1, hW1⟩ : ∃ W1, W1 = W0.alloc (.cells #[.pointer (some ⟨gb, 0, none⟩)] 83) := ⟨_, rfl⟩
  have hb0 : Below w.heap.size w W0 := by rw [hW0]; exact ((Below.refl _ w).alloc (Nat.le_refl _) _).alloc (by simp) _
  have hs0 : W0.heap.size = w.heap.size + 2 := by rw [hW0]; simp
  have hb1 : Below W0.heap.size W0 W1 := by rw [hW1]; exact (Below.refl _ W0).alloc (Nat.le_refl _) _
  have hs1 : W1.heap.size = w.heap.size + 3 := by rw [hW1]; simp [hs0]
  have hx0 : IT.Box W0 w.heap.size 20 (.iface 78 (.agg #[.int .i64 a.src, .int .i64 a.til])) := by rw [hW0]; exact (IT.Box.new w _ _).alloc _
  have hr0 : IT.Box W0 (w.heap.size + 1) 43 (.slice none 0 0) := by
    rw [hW0]
    have := IT.Box.new (w.alloc (.cells #[.iface 78 (.agg #[.int .i64 a.src, .int .i64 a.til])] 20)) 43 (.slice none 0 0)
    rwa [World.size_alloc] at this
  have hp1 : IT.Box W1 (w.heap.size + 2) 83 (.pointer (some ⟨gb, 0, none⟩)) := by
    rw [hW1, ← hs0]
    exact IT.Box.new W0 _ _
  have hE1 := (hE.below hb0).below hb1
  have HEN := Lib.hid (entries_any (some ⟨gb, 0, none⟩) W0)
  rw [← hW1, hs0] at HEN
  have HG := Lib.hid (entries_gives hE1 _ hp1 hn)
  have hgl : gb < w.heap.size := hE.c.lt
  have hat : ∀ k, At tv k → k < w.heap.size := fun k hk => (hE.t.at hk).2
  have hC : ∀ k, (k = w.heap.size + 2 ∨ k = gb ∨ At tv k) → k < W1.heap.size := fun k hk => by
    rcases hk with rfl | rfl | hk
    · omega
    · omega
    · have := hat k hk; omega
  have HGC : Hid (∀ k, (k = w.heap.size + 2 ∨ k = gb ∨ At tv k) → ¬ (k = w.heap.size ∨ k = w.heap.size + 1)) := Lib.hid fun k hk h => by
    rcases hk with rfl | rfl | hk
    · omega
    · omega
    · have := hat k hk; omega
  have HJ0 : Hid (FoJ w.heap.size (.iface 78 (.agg #[.int .i64 a.src, .int .i64 a.til])) p [] (fun k => k = w.heap.size ∨ k = w.heap.size + 1) W1) := Lib.hid
    ⟨.slice none 0 0, [], Bl.below hx0 hb1, Bl.below hr0 hb1, Rk.nil 3 _ _, (fun x hx => by cases hx), rfl, (fun b hb => by
      rcases hb with h | h | ⟨_, _, h⟩
      · exact .inl h
      · exact .inr h
      · cases h), (fun b hb => by rcases hb with rfl | rfl <;> omega)⟩
  have HBW : Hid (Below w.heap.size w W1) := Lib.hid (below_mid hb0 hb1)
  have HW0 := Lib.hid hW0.symm
  have HN := Lib.hid hn
  clear hE hb0 hs0 hb1 hx0 hr0 hp1 hE1 hn hp hk hW0 hW1 hat
  refine (callsIn_wide (n := 9)).1 ?_
  refine callsIn_of_wp_marks Tryz.func177 rfl trivial ?_
  simp only [Tryz.ntmps177, List.size_toArray, List.length_cons, List.length_nil, Nat.reduceAdd, Nat.reduceSub, Array.replicate_succ, Array.replicate_zero, List.push_toArray, List.append_toArray, List.nil_append, List.cons_append]
  gi_wp2_with fail
  rw [HW0.out]
  refine (callsIn_wide.2 HEN.out).mono ?_
  rintro x w' ⟨rfl, rfl⟩
  gi_wp2_with fail
  refine IT.wpIn_over (gf := 182) (lb := #[.pointer (some ⟨w.heap.size + 2, 0, none⟩)]) rfl (enters_of Tryz.func182 (by kernel_rfl) rfl) HG.out hC (fun x args _ _ ⟨_, h, _⟩ => by rw [h]; rfl)
    (fun pre => FoJ w.heap.size (.iface 78 (.agg #[.int .i64 a.src, .int .i64 a.til])) p pre) (fun _ _ _ _ => False) (fun s => FoJ.stable _ _ _ _) (fun c s => fun _ _ _ h _ _ => h) (fun k => k = w.heap.size ∨ k = w.heap.size + 1)
    HGC.out HJ0.out (fun k hk => by rcases hk with rfl | rfl <;> omega)
    (fun x args B' ac Wm => ∃ (av : Option Addr) (cv : Nat), args = #[.agg #[.int .i64 x.tm, .slice av x.labs.length cv, .string x.line]] ∧ ac = { tmps := #[.pointer (some ⟨gb, 0, none⟩), .iface 78 (.agg #[.int .i64 a.src, .int .i64 a.til]), undef, .pointer (some ⟨w.heap.size, 0, none⟩), .slice none 0 0, .pointer (some ⟨w.heap.size + 1, 0, none⟩), .pointer (some ⟨B', 0, none⟩), .pointer (some ⟨gb, 0, none⟩), .func (.func 182) #[] #[.pointer (some ⟨w.heap.size + 2, 0, none⟩)], .agg #[.int .i64 x.tm, .slice av x.labs.length cv, .string x.line], undef, undef, undef, undef, undef, undef, undef, undef], defers := [] } ∧ Bx Wm B' (.int .i64 x.tm) (.slice av x.labs.length cv) (.string x.line))
    (fun x args B' a W1 W2 ⟨av, cv, h0, h1, h2⟩ hk => ⟨av, cv, h0, h1, h2.kept hk (fun h => Nat.lt_irrefl _ h)⟩) ?assign ?body ?done ?stop
  case assign =>
    rintro l2 x args own W2 K ⟨lv, rfl, hlb, _⟩ hK
    obtain ⟨av, cv, rfl, _⟩ := id hlb
    have HK := Lib.hid hK
    clear hK hlb
    simp only [Ent.val]
    gi_wp2_with fail
    exact HK.out _ _ ((IT.Keep.refl _ _).alloc _) ⟨av, cv, rfl, rfl, Bx.new _ _ _ _⟩
  case body =>
    rintro l2 pre x args G1 own B' a Wz W ⟨lv0, hargs0, hlb0, hob⟩ hdis hown hzr hpx hJ1 hlt hBle ⟨av, cv, hargs, rfl, hxb⟩
    obtain rfl : lv0 = .slice av x.labs.length cv := by
      rw [hargs0] at hargs
      simpa [Ent.val] using hargs
    obtain ⟨v, R, h1, h2, h3, h4, h5, h6, h7⟩ := id hJ1
    have hlx : LabsAt own W (.slice av x.labs.length cv) x.labs := hlb0.kept hzr (fun b hb _ hn => hn.2 hb)
    have HKK := Lib.hid (HKP.out x av x.labs.length cv W)
    obtain ⟨x0, x1, x2, _, _, _⟩ := id hxb
    have y0 := h1.cell
    have HLV : Hid (IT.Live G1 W) := Lib.hid fun k hk => Nat.lt_of_lt_of_le (hlt k hk) hBle
    have HOW : Hid (∀ b, own b → b < W.heap.size ∧ w.heap.size ≤ b) := Lib.hid fun b hb => ⟨Nat.lt_of_lt_of_le (hown b hb) hBle, by have := hob b hb; omega⟩
    have HRN : Hid (R.length + 1 ≤ 2000) := Lib.hid (by
      have := congrArg List.length h5
      rw [List.length_map] at this
      have h8 := List.length_filter_le p pre
      have h9 := hpx.length_le
      rw [List.length_append] at h9
      have := HN.out
      omega)
    have HJJ := Lib.hid hJ1
    have HDS := Lib.hid hdis
    have HXB := Lib.hid hxb
    have H1 := Lib.hid h1
    have H2 := Lib.hid h2
    have H3 := Lib.hid h3
    have H4 := Lib.hid h4
    have H5 := Lib.hid h5
    have H6 := Lib.hid h6
    have H7 := Lib.hid h7
    have HLX := Lib.hid hlx
    obtain ⟨sa, sc, hv⟩ := h3.shape
    clear hargs0 hargs hlb0 hob hdis hown hzr hpx hJ1 hlt hBle hxb h1 h2 h3 h4 h5 h6 h7 hlx
    cases hpx : p x with
    | false =>
      have HPX := Lib.hid hpx
      rw [hpx] at HKK
      clear hpx
      gi_wp2_with fail
      refine (callsIn_wide.2 HKK.out).mono ?_
      rintro z w7 ⟨rfl, hb7⟩
      have hl7 := IT.Lay.of hb7
      have HN : Hid (IT.Next (FoJ w.heap.size (.iface 78 (.agg #[.int .i64 a.src, .int .i64 a.til])) p (pre ++ [x])) (fun k => G1 k ∨ own k) W w7) := Lib.hid (by
        refine IT.Next.mk G1 ?_ (fun k hk => Nat.lt_of_lt_of_le (HLV.out k hk) hl7.size) (fun k hk => .inl (.inl hk)) (IT.Lay.keep hl7)
        obtain ⟨v, R, h1, h2, h3, h4, h5, h6, h7⟩ := FoJ.stable _ _ _ _ _ _ _ HJJ.out HLV.out (IT.Lay.keep hl7)
        exact ⟨v, R, h1, h2, h3, h4, by rw [h5, filter_snoc, HPX.out]; simp, h6, h7⟩)
      clear x0 x1 x2 y0 hb7 hl7
      gi_wp2_with fail
      exact HN.out
    | true =>
      have HPX := Lib.hid hpx
      rw [hpx] at HKK
      clear hpx
      gi_wp2_with fail
      refine (callsIn_wide.2 HKK.out).mono ?_
      rintro z w7 ⟨rfl, hb7⟩
      have hl7 := IT.Lay.of hb7
      obtain ⟨x0, x1, x2, _, _, _⟩ := id (Bx.kept (G := fun _ => False) HXB.out hl7 (fun h => h))
      have hb2 := H2.out.keep hl7 (fun h => h)
      have y2 := hb2.cell
      have hrk7 := H3.out.kept hl7 (fun _ _ h => h)
      have hw7 := H2.out.lt
      have hs7 := hl7.size
      have HRS := Lib.hid hrk7
      have HL8 : Hid (IT.Lay W (w7.alloc (.cells #[.int .i64 x.tm, .slice av x.labs.length cv, .string x.line] 32))) := Lib.hid (hl7.alloc _)
      have HSR := Lib.hid (src_entN (e := x) (w := w7) (al := av) (cl := cv))
      have HS7 := Lib.hid hs7
      have HW7 := Lib.hid hw7
      clear hb7 hl7 hb2 hrk7 hs7 hw7
      subst hv
      gi_wp2_with (gi_at_builtin; refine wpListIn_append_rk E24 _ rfl _ _ 43 rfl rfl (HRS.out.alloc _) ?c1 (.slice (some ⟨w7.heap.size, 0, none⟩) 1 1) 1 (flatR [((.slice av x.labs.length cv : Value), x)]) rfl HSR.out ?c2 ?c3 ?_)
      case c1 =>
        intro k hk
        have := HW7.out
        have := HS7.out
        rw [World.size_alloc] at hk
        omega
      case c2 => have := HRN.out; omega
      case c3 => have := HRN.out; omega
      intro v' w9 hrk hk9
      obtain ⟨hb9, hn9⟩ := FoJ.more H1.out H2.out H3.out H4.out H5.out H6.out H7.out HLX.out HDS.out HOW.out HLV.out HPX.out HL8.out hk9 (hrk.mono fun k h _ => ⟨h.1, h.2.imp id fun h => by rw [World.size_alloc]; exact h⟩)
      have hcb := hb9.cell
      have hfb := hb9.frozen
      obtain ⟨a', c', hv'⟩ := hrk.shape
      have HN9 := Lib.hid hn9
      clear hn9 hb9 hrk hk9
      subst hv'
      gi_wp2_with fail
      exact HN9.out
  case done =>
    intro D We hlf
    obtain ⟨G', ⟨v, R, h1, h2, h3, h4, h5, h6, h7⟩, hl, hg, hk, hD1, hD2, hD3⟩ := id hlf
    have hcb := h2.cell
    have hkp : IT.Keep (fun k => k = D) We (We.putObj D (.deferred none)) := (IT.Keep.refl _ We).put _ (fun _ => rfl)
    have HB : Hid (Below w.heap.size w (We.putObj D (.deferred none))) := Lib.hid (by
      have h8 : IT.Keep (fun k => w.heap.size ≤ k) w We := (IT.Keep.ofBelow HBW.out).trans (IT.Keep.into (G := fun k => k = w.heap.size ∨ k = w.heap.size + 1) ⟨hk.os, hk.tape, hk.output, hk.size, hk.block⟩ fun k _ h => by omega) |>.into fun _ _ h => h
      exact IT.Keep.below (h8.put (r := D) (.deferred none) (fun h => by omega)) (fun _ h => h) (Nat.le_refl _))
    have HO : Hid (EntsAt (fun b => w.heap.size ≤ b) (fun b => w.heap.size ≤ b) (We.putObj D (.deferred none)) v (es.filter p)) := Lib.hid (by
      rw [← h5]
      exact ((h3.mono fun k h _ => by omega).kept hkp (fun b ha e => hD2 (by subst e; exact h6 _ (.inr (.inr ha))))).ents ((h4.kept hkp fun b hb _ e => hD2 (by subst e; exact hb.1)).mono fun b hb _ => h7 b hb.1))
    clear h1 h2 h3 h4 h5 h6 h7 hl hg hk hD1 hD2 hD3 hkp
    gi_wp2_with fail
    refine ⟨by simp, .inl ⟨_, _, rfl, hlf.takes, ?_⟩⟩
    exact ⟨_, results_tmp rfl _ _ _, v, rfl, HO.out, HB.out⟩
  case stop =>
    intro D c pre We hpre hlf
    obtain ⟨G', h, _⟩ := hlf
    exact h.elim
end Go.Proofs.YtoobjjpheegmdaaGreat.E4
