/-
  PAGES THAT ARE GONE OVER, UP TO SO MANY: the law's gone.
-/
import Derived.Test.YtidjodplimkmgaaGreatDoorPr11
namespace Go.Proofs.YtidjodplimkmgaaGreatDoor.E4
open Go.RowKit Go Go.Shelf

attribute [local go_sem] Oper.semAt_some wide_fn wide_depth

theorem info23 : (Tryz.prog.info? 33).map (fun i => (i.zero, i.size, i.bytes)) = some (some (.slice none 0 0), 1, 24) := by kernel_rfl
theorem elem23 : ∃ i z, Elem Tryz.prog 23 33 i z 1 24 := by
  obtain ⟨i, hi, hz, hs, hb⟩ := info_parts info23
  exact ⟨i, _, Tryz.underlying23, hi, hz, hs, hb, by kernel_rfl⟩


theorem wpListIn_append_rk {F : Fence} {nn : Nat} {P : Program} {t e : TypeId} {i : TypeInfo} {z : Value} {k bytes : Nat} (E : Elem P t e i z k bytes) (w : World) {ops : Array Oper} {rest : List Oper} {o : Oper} {a : Act} {Q : Exit → Act → World → Prop} (hgd : o.guard = none) (s x : Operand) (tx : TypeId)
    (ho : o.op = .call { callee := .builtin .append, args := #[s, x], argTypes := #[t, tx] })
    {G : Nat → Prop} {v : Value} {n : Nat} {xs : List Value} (hv : a.eval s = v) (h : Rk k G w v n xs) (hG : ∀ k, w.heap.size ≤ k → G k)
    (xv : Value) (m : Nat) (ys : List Value) (hx : a.eval x = xv) (hs : Src P k tx xv m ys w) (hb : (n + m) * bytes ≤ 140737488355328) (hl : n + m ≤ 140737488355328)
    (hK : ∀ v' w', Rk k (fun k => G k ∧ (At v k ∨ w.heap.size ≤ k)) w' v' (n + m) (xs ++ ys) → Keep (At v) w w' → wpListIn F nn P ops Q rest (a.put o.dst v') w') : wpListIn F nn P ops Q (o :: rest) a w := by
  refine wpListIn_plain hgd fun K hK' => ?_
  obtain ⟨v', w', hrun, h1, h2⟩ := run_append_rk E h hG tx o.type xv m ys hs hb hl
  unfold Oper.wpIn
  refine ⟨?_, ?_⟩
  · simp [Oper.about, ho, resolve, Target.leads, Sem.run_pure]
  · rw [Oper.semAt_plain F _ _ (by rw [ho]; intro c hc'; cases hc')]
    simp [execOp, ho, resolve, invoke, builtin, hv, hx, hrun, Result.andThen]
    exact hK' _ _ (hK v' w' h1 h2)

theorem func_eqIn (W : World) (d g : Nat) (lb : Array Value) : (Op.equalIn (d + 1) 37 (.func (.func g) #[] lb) .nilFunc).run Tryz.prog W = .ok false W := by
  simp [Op.equalIn, run_underlying Tryz.underlying37]
theorem func_ne (g : Nat) (lb : Array Value) (W : World) : (binOp .eql 37 (.func (.func g) #[] lb) .nilFunc).run Tryz.prog W = .ok (.bool false) W := by
  simp only [binOp]
  simp [Op.equal, Op.maxDepth, func_eqIn W 9999 g lb]

/-- What has come: the pages' values, each page in a block of its own. -/
def Outs (B : Nat) (m : Int) (pre : List (List (Value × Ent))) : Stance := fun G W =>
  ∃ v vs, Box W (B + 1) 23 v ∧ Box W B 3 (.int .i64 m) ∧ Rk 1 (fun b => B + 2 ≤ b) W v pre.length vs ∧ (∀ i (h : i < pre.length), ∃ u, vs[i]? = some u ∧ RawSl (fun k => G k ∧ ¬ At v k ∧ k ≠ B ∧ k ≠ B + 1) W u pre[i]) ∧ (∀ k, k = B ∨ k = B + 1 ∨ At v k → G k)

theorem RawSl.block {C : Nat → Prop} {W W' : World} {v : Value} {R : List (Value × Ent)} (h : RawSl C W v R) (hs : W.heap.size ≤ W'.heap.size) (hb : ∀ k, C k → k < W.heap.size → W'.heap[k]? = W.heap[k]?) : RawSl C W' v R := by
  obtain ⟨a, c, hv, h | ⟨b, off, ha, hC, hlt, hr⟩⟩ := h
  · exact ⟨a, c, hv, .inl h⟩
  · exact ⟨a, c, hv, .inr ⟨b, off, ha, hC, Nat.lt_of_lt_of_le hlt hs, RawAt.block hr (hb b hC hlt)⟩⟩
theorem RawSl.live {C : Nat → Prop} {W : World} {v : Value} {R : List (Value × Ent)} (h : RawSl C W v R) : RawSl (fun k => C k ∧ k < W.heap.size) W v R := by
  obtain ⟨a, c, hv, h | ⟨b, off, ha, hC, hlt, hr⟩⟩ := h
  · exact ⟨a, c, hv, .inl h⟩
  · exact ⟨a, c, hv, .inr ⟨b, off, ha, ⟨hC, hlt⟩, hlt, hr⟩⟩

theorem Outs.stable (B : Nat) (m : Int) (l : List (List (Value × Ent))) : Stable (Outs B m l) := by
  rintro G W W' ⟨v, vs, h1, h2, h3, h4, h5⟩ _ hk
  refine ⟨v, vs, h1.keep hk (fun h => h (h5 _ (.inr (.inl rfl)))), h2.keep hk (fun h => h (h5 _ (.inl rfl))), h3.keep hk (fun k _ ha _ h => h (h5 _ (.inr (.inr ha)))), fun i hi => ?_, h5⟩
  obtain ⟨u, hu, hr⟩ := h4 i hi
  exact ⟨u, hu, hr.keep hk fun k hC hn => hn hC.1⟩

theorem and_stable {p : Prop} {J : Stance} (h : Stable J) : Stable (fun G W => p ∧ J G W) := fun G W W' hj hl hk => ⟨hj.1, h G W W' hj.2 hl hk⟩

/-- Between two rounds; and where one has left. -/
def GoneI (B : Nat) (m : Int) (pre : List (List (Value × Ent))) : Stance := fun G W => (pre.length : Int) ≤ max m 0 ∧ Outs B m pre G W
def GoneX (B : Nat) (m : Int) (c : Code) (pre : List (List (Value × Ent))) : Stance := fun G W => (c = .exit 0 ∧ pre.length = m.toNat + 1) ∧ Outs B m pre.dropLast G W

theorem take_one_more {α : Type} {xs pre : List α} {n : Nat} (h : pre <+: xs) (hl : pre.length = n + 1) : pre.dropLast = xs.take n := by
  obtain ⟨r, rfl⟩ := h
  rw [List.dropLast_eq_take, hl, List.take_append_of_le_length (by omega)]
  rfl

/-- What is handed back. -/
def GoneP (xs : List (List (Value × Ent))) (w : World) (e : Ending) (w' : World) : Prop :=
  ∃ v vs, e = .returned v ∧ Rk 1 (fun b => w.heap.size ≤ b) w' v xs.length vs ∧ (∀ i (h : i < xs.length), ∃ u, vs[i]? = some u ∧ RawSl (fun k => w.heap.size ≤ k) w' u xs[i]) ∧ Lay w w'

set_option maxHeartbeats 8000000 in
set_option maxRecDepth 100000 in
theorem gone_any (xs : List (List (Value × Ent))) (lb : Array Value) (C : Nat → Prop) (m : Int) (w : World) (hseq : Gives Tryz.prog 18 lb C encP xs w) (hC : ∀ k, C k → k < w.heap.size) (hxn : xs.length ≤ 1000) :
    Calls Tryz.prog 8 #[.func (.func 18) #[] lb, .int .i64 m] w (GoneP (xs.take m.toNat) w) := by
  have hmx : Tryz.prog.follows .mixedOrders = true := by kernel_rfl
  obtain ⟨i23, z23, E23⟩ := elem23
  have hne := func_ne 18
  obtain ⟨W0, hW0⟩ : ∃ W0, W0 = (w.alloc (.cells #[.int .i64 m] 3)).alloc (.cells #[.slice none 0 0] 23) := ⟨_, rfl⟩
  have hl0 : Lay w W0 := by rw [hW0]; exact ((Keep.refl _ _).alloc _).alloc _
  have hs0 : W0.heap.size = w.heap.size + 2 := by rw [hW0]; simp
  have hm0 : Box W0 w.heap.size 3 (.int .i64 m) := by rw [hW0]; exact (Box.new w 3 (.int .i64 m)).alloc _
  have ho0 : Box W0 (w.heap.size + 1) 23 (.slice none 0 0) := by
    rw [hW0]
    have := Box.new (w.alloc (.cells #[.int .i64 m] 3)) 23 (.slice none 0 0)
    rwa [World.size_alloc] at this
  have HG := hseq.later (hl0.keep (G := fun k => ¬ C k))
  have HL0 := Lib.hid hl0
  have HW0 := Lib.hid hW0.symm
  have HXN := Lib.hid hxn
  clear hseq hW0 hl0 hxn
  refine (callsIn_wide (n := 9)).1 ?_
  refine callsIn_of_wp_marks Tryz.func8 rfl trivial ?_
  simp only [Tryz.ntmps8, List.size_toArray, List.length_cons, List.length_nil, Nat.reduceAdd, Nat.reduceSub, Array.replicate_succ, Array.replicate_zero, List.push_toArray, List.append_toArray, List.nil_append, List.cons_append]
  gi_wp2_with fail
  rw [HW0.out]
  have hlive0 : Live (fun k => k = w.heap.size ∨ k = w.heap.size + 1) W0 := fun k hk => by rcases hk with rfl | rfl <;> omega
  refine wpIn_over (gf := 18) (lb := lb) rfl (enters_of Tryz.func18 (by kernel_rfl) rfl) HG (fun k hk => by have := hC k hk; omega) (fun x args _ _ ⟨v, h, _⟩ => by rw [h]; rfl)
    (GoneI w.heap.size m) (GoneX w.heap.size m)
    (fun s => and_stable (Outs.stable _ _ _)) (fun c s => and_stable (Outs.stable _ _ _)) (fun k => k = w.heap.size ∨ k = w.heap.size + 1)
    (fun k hk h => by have := hC k hk; rcases h with rfl | rfl <;> omega)
    ⟨by simp; omega, .slice none 0 0, [], ho0, hm0, Rk.nil 1 _ _, fun i hi => by simp at hi, fun k hk => by
      rcases hk with h | h | ⟨_, _, h⟩
      · exact .inl h
      · exact .inr h
      · cases h⟩
    hlive0
    (fun x args B' a Wm => ∃ (av : Option Addr) (cv : Nat), args = #[.slice av x.length cv] ∧ a = { tmps := #[.func (.func 18) #[] lb, .int .i64 m, undef, .pointer (some ⟨w.heap.size, 0, none⟩), .slice none 0 0, .pointer (some ⟨w.heap.size + 1, 0, none⟩), .slice av x.length cv, .func (.func 18) #[] lb, .bool false, .func (.func 18) #[] lb, .slice av x.length cv, undef, undef, undef, undef, undef, undef, undef, undef, undef], defers := [] })
    (fun _ _ _ _ _ _ ⟨av, cv, h0, e⟩ _ => ⟨av, cv, h0, e⟩) ?assign ?body ?done ?stop
  case assign =>
    rintro l2 x args own W2 K ⟨v, rfl, av, cv, rfl, _⟩ hK
    have HK := Lib.hid hK
    clear hK
    gi_wp2_with fail
    exact HK.out _ _ (Keep.refl _ _) ⟨av, cv, rfl, by simp⟩
  case body =>
    rintro l2 pre x args G1 own B' a Wz W ⟨v0, hargs0, hsl0⟩ hdis hown hzr hpx ⟨hle, v, vs, hbo, hbm, hrs, hpg, hGv⟩ hlt hBle ⟨av, cv, hargs, rfl⟩
    obtain rfl : v0 = .slice av x.length cv := by
      rw [hargs0] at hargs
      simpa using hargs
    have hsl : RawSl own W (.slice av x.length cv) x := hsl0.keep hzr (fun k ho hn => hn.2 ho)
    have hpl : pre.length + 1 ≤ 1000 := by
      have := hpx.length_le
      have := HXN.out
      simp at *
      omega
    have hco := hbo.cell
    have hcm := hbm.cell
    obtain ⟨a, c, hv⟩ := hrs.shape
    have hlive : Live G1 W := fun k hk => Nat.lt_of_lt_of_le (hlt k hk) hBle
    have hownl : ∀ k, own k → k < W.heap.size := fun k hk => Nat.lt_of_lt_of_le (hown k hk) hBle
    have hwl := hbo.lt
    by_cases hge : m ≤ pre.length
    · have HST := Lib.hid (Next.mk (J := GoneX w.heap.size m (.exit 0) (pre ++ [x])) (G := fun k => G1 k ∨ own k) (W := W) (W' := W) G1
        ⟨⟨rfl, by simp; omega⟩, v, vs, hbo, hbm, by rw [List.dropLast_concat]; exact hrs, by rw [List.dropLast_concat]; exact hpg, hGv⟩ hlive (fun k hk => .inl (.inl hk)) (Keep.refl _ _))
      clear hrs hbo hbm hlive hlt hsl hsl0 hpg hGv hdis hown hownl hzr hargs0
      subst hv
      gi_wp2_with fail
      exact HST.out
    · have hsrc : Src Tryz.prog 1 23 (.slice (some ⟨W.heap.size, 0, none⟩) 1 1) 1 [.slice av x.length cv] (W.alloc (.cells #[.slice av x.length cv] 33)) := (rk_new 1 W 1 [.slice av x.length cv] 33 rfl (by omega)).src Tryz.underlying23 (fun u hu => by
        obtain rfl := List.mem_singleton.1 hu
        rfl)
      have HN : Hid (∀ (w1 : World) (v' : Value), Rk 1 (fun k => w.heap.size + 2 ≤ k ∧ (At v k ∨ W.heap.size + 1 ≤ k)) w1 v' (pre.length + 1) (vs ++ [.slice av x.length cv]) → Keep (At v) (W.alloc (.cells #[.slice av x.length cv] 33)) w1 →
          Box w1 (w.heap.size + 1) 23 v ∧ Next (GoneI w.heap.size m (pre ++ [x])) (fun k => G1 k ∨ own k) W (w1.setCell ⟨w.heap.size + 1, 0, none⟩ v')) := Lib.hid fun w1 v' hown' hk' => by
        have hno : ∀ k, At v k → w.heap.size + 2 ≤ k := fun k h => (hrs.at h).1
        have hla : Lay W (W.alloc (.cells #[.slice av x.length cv] 33)) := (Keep.refl _ _).alloc _
        have hb1 : Box w1 (w.heap.size + 1) 23 v := (hbo.alloc _).keep hk' (fun h => by have := hno _ h; omega)
        have hm1 : Box w1 w.heap.size 3 (.int .i64 m) := (hbm.alloc _).keep hk' (fun h => by have := hno _ h; omega)
        have hks : Keep (fun k => k = w.heap.size + 1) w1 (w1.setCell ⟨w.heap.size + 1, 0, none⟩ v') := keep_setCell w1 (w.heap.size + 1) v' rfl
        have hsw : W.heap.size ≤ w1.heap.size := Nat.le_trans hla.size hk'.size
        have hKall : Keep (fun k => At v k ∨ k = w.heap.size + 1) W (w1.setCell ⟨w.heap.size + 1, 0, none⟩ v') := (hla.into (fun _ _ h => h.elim)).trans ((hk'.into fun _ _ h => .inl h).trans (hks.into fun _ _ h => .inr h))
        have hAt' : ∀ k, At v' k → At v k ∨ W.heap.size + 1 ≤ k := fun k hk => (hown'.at hk).1.2
        have hvsl : vs.length = pre.length := by have := hrs.1; omega
        refine ⟨hb1, Next.mk (fun k => G1 k ∨ own k ∨ At v' k) ⟨by simp; omega, v', vs ++ [.slice av x.length cv], hb1.set v', hm1.keep hks (fun h => by omega), ?_, fun i hi => ?_, fun k hk => ?_⟩ (fun k hk => ?_) (fun k hk => ?_) ?_⟩
        · rw [List.length_append, List.length_singleton]
          exact (hown'.mono fun k h _ => h.1).keep hks (fun k _ ha _ h => by have := (hown'.at ha).1.1; omega)
        · rw [List.length_append, List.length_singleton] at hi
          by_cases hi' : i < pre.length
          · obtain ⟨u, hu, hr⟩ := hpg i hi'
            refine ⟨u, by rw [List.getElem?_append_left (by omega)]; exact hu, ?_⟩
            rw [List.getElem_append_left hi']
            exact ((RawSl.block hr hKall.size fun k hC hlt => hKall.block k hlt fun h => h.elim hC.2.1 hC.2.2.2).mono fun k hC => ⟨.inl hC.1, fun h => (hAt' k h).elim hC.2.1 fun h => by have := hlive k hC.1; omega, hC.2.2.1, hC.2.2.2⟩)
          · obtain rfl : i = pre.length := by omega
            refine ⟨.slice av x.length cv, by rw [List.getElem?_append_right (by omega), hvsl]; simp, ?_⟩
            rw [List.getElem_append_right (Nat.le_refl _)]
            simp only [Nat.sub_self, List.getElem_cons_zero]
            have hod : ∀ k, own k → ¬ At v k ∧ k ≠ w.heap.size ∧ k ≠ w.heap.size + 1 := fun k ho => ⟨fun h => hdis k ho (hGv k (.inr (.inr h))), fun e => hdis k ho (hGv k (.inl e)), fun e => hdis k ho (hGv k (.inr (.inl e)))⟩
            exact ((RawSl.block hsl hKall.size fun k ho hlt => hKall.block k hlt fun h => h.elim (hod k ho).1 (hod k ho).2.2).mono fun k ho => ⟨.inr (.inl ho), fun h => (hAt' k h).elim (hod k ho).1 fun h => by have := hownl k ho; omega, (hod k ho).2.1, (hod k ho).2.2⟩)
        · rcases hk with h | h | h
          · exact .inl (hGv k (.inl h))
          · exact .inl (hGv k (.inr (.inl h)))
          · exact .inr (.inr h)
        · rw [show (w1.setCell ⟨w.heap.size + 1, 0, none⟩ v').heap.size = w1.heap.size by simp [World.setCell]]
          rcases hk with h | h | h
          · exact Nat.lt_of_lt_of_le (hlive k h) hsw
          · exact Nat.lt_of_lt_of_le (hownl k h) hsw
          · exact (hown'.at h).2
        · rcases hk with h | h | h
          · exact .inl (.inl h)
          · exact .inl (.inr h)
          · rcases hAt' k h with h | h
            · exact .inl (.inl (hGv k (.inr (.inr h))))
            · exact .inr (by omega)
        · exact hKall.into fun k _ h => .inl (h.elim (fun h => hGv k (.inr (.inr h))) (fun h => hGv k (.inr (.inl h))))
      have HRS := Lib.hid hrs
      have HSRC := Lib.hid hsrc
      clear hrs hbo hbm hlive hsrc hlt hsl hsl0 hpg hGv hdis hown hownl hzr hargs0
      subst hv
      gi_wp2_with (gi_at_builtin; refine wpListIn_append_rk E23 _ rfl _ _ 23 rfl rfl (HRS.out.alloc _) ?c1 (.slice (some ⟨W.heap.size, 0, none⟩) 1 1) 1 [.slice av x.length cv] rfl HSRC.out ?c2 ?c3 ?_)
      case c1 =>
        intro k hk
        omega
      case c2 => omega
      case c3 => omega
      intro v' w1 hown' hk'
      obtain ⟨hb1, hn1⟩ := HN.out w1 v' (hown'.mono fun k h _ => ⟨h.1, h.2.imp id fun h => by simpa using h⟩) hk'
      have hcb := hb1.cell
      have hfb := hb1.frozen
      obtain ⟨a', c', hv'⟩ := hown'.shape
      have HN1 := Lib.hid hn1
      clear hn1 hb1 hown' hk'
      subst hv'
      gi_wp2_with fail
      exact HN1.out
  case done =>
    intro D We hlf
    obtain ⟨G', ⟨hle, v, vs, hbo, hbm, hrs, hpg, hGv⟩, hl, hg, hk, hD1, hD2, hD3⟩ := id hlf
    have hcb := hbo.cell
    have hkp : Keep (fun k => k = D) We (We.putObj D (.deferred none)) := (Keep.refl _ We).put _ (fun _ => rfl)
    have hlay : Lay w (We.putObj D (.deferred none)) := Keep.after (H := fun _ => False) (fun k hk => .inr (by rcases hk with rfl | rfl <;> omega)) HL0.out (hlf.shut (and_stable (Outs.stable _ _ _))).keep
    have hGn : ∀ k, G' k → w.heap.size ≤ k := fun k hk => by
      rcases hg k hk with (rfl | rfl) | h <;> omega
    have HO : Hid (Rk 1 (fun b => w.heap.size ≤ b) (We.putObj D (.deferred none)) v xs.length vs ∧ (∀ i (h : i < xs.length), ∃ u, vs[i]? = some u ∧ RawSl (fun k => w.heap.size ≤ k) (We.putObj D (.deferred none)) u xs[i])) := Lib.hid ⟨(hrs.mono fun k h _ => by omega).keep hkp (fun k _ ha _ e => hD2 (by subst e; exact hGv _ (.inr (.inr ha)))), fun i hi => by
      obtain ⟨u, hu, hr⟩ := hpg i hi
      exact ⟨u, hu, (RawSl.keep hr hkp fun k hC e => hD2 (by subst e; exact hC.1)).mono fun k hC => hGn k hC.1⟩⟩
    have HLY := Lib.hid hlay
    have HTK : Hid (xs.take m.toNat = xs) := Lib.hid (List.take_of_length_le (by omega))
    clear hbo hbm hrs hpg hGv hl hg hk hD1 hD2 hD3 hle hkp hlay hGn
    gi_wp2_with fail
    refine ⟨by simp, .inl ⟨_, _, rfl, hlf.takes, ?_⟩⟩
    refine ⟨_, results_tmp rfl _ _ _, v, vs, rfl, ?_, ?_, HLY.out⟩
    · rw [HTK.out]; exact HO.out.1
    · rw [HTK.out]; exact HO.out.2
  case stop =>
    intro D c pre We hpre hlf
    obtain ⟨G', ⟨⟨rfl, hle⟩, v, vs, hbo, hbm, hrs, hpg, hGv⟩, hl, hg, hk, hD1, hD2, hD3⟩ := id hlf
    have hcb := hbo.cell
    have hkp : Keep (fun k => k = D) We (We.putObj D (.deferred none)) := (Keep.refl _ We).put _ (fun _ => rfl)
    have hlay : Lay w (We.putObj D (.deferred none)) := Keep.after (H := fun _ => False) (fun k hk => .inr (by rcases hk with rfl | rfl <;> omega)) HL0.out (hlf.shut (and_stable (Outs.stable _ _ _))).keep
    have hGn : ∀ k, G' k → w.heap.size ≤ k := fun k hk => by
      rcases hg k hk with (rfl | rfl) | h <;> omega
    have htk := take_one_more hpre hle
    rw [htk] at hrs hpg
    have HO : Hid (Rk 1 (fun b => w.heap.size ≤ b) (We.putObj D (.deferred none)) v (xs.take m.toNat).length vs ∧ (∀ i (h : i < (xs.take m.toNat).length), ∃ u, vs[i]? = some u ∧ RawSl (fun k => w.heap.size ≤ k) (We.putObj D (.deferred none)) u (xs.take m.toNat)[i])) := Lib.hid ⟨(hrs.mono fun k h _ => by omega).keep hkp (fun k _ ha _ e => hD2 (by subst e; exact hGv _ (.inr (.inr ha)))), fun i hi => by
      obtain ⟨u, hu, hr⟩ := hpg i hi
      exact ⟨u, hu, (RawSl.keep hr hkp fun k hC e => hD2 (by subst e; exact hC.1)).mono fun k hC => hGn k hC.1⟩⟩
    have HLY := Lib.hid hlay
    clear hbo hbm hrs hpg hGv hl hg hk hD1 hD2 hD3 hle hkp hlay hGn htk
    gi_wp2_with fail
    refine ⟨by simp, .inl ⟨_, _, rfl, hlf.takes, ?_⟩⟩
    exact ⟨_, results_tmp rfl _ _ _, v, vs, rfl, HO.out.1, HO.out.2, HLY.out⟩

end Go.Proofs.YtidjodplimkmgaaGreatDoor.E4
