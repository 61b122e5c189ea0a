/-
  tree.All; magpielaw06.gone: WHAT IS GONE OVER, UP TO SO MANY.
-/
import Derived.Test.YtgmahdeaggjjgaaAll6
namespace Go.Proofs.Ytgmahdeaggjjgaa
open Go.RowKit Go Go.Shelf

attribute [local go_sem] Oper.semAt_some wide_fn wide_depth

/-- append at the walk, inside a fence. -/
theorem wpListIn_append_rk {F : Fence} {nn : Nat} {P : Program} {t e : TypeId} {i : TypeInfo} {z : Value} {k bytes : Nat} (E : Elem P t e i z k bytes) (w : World) {ops : Array Oper} {rest : List Oper} {o : Oper} {a : Act} {Q : Exit → Act → World → Prop} (hgd : o.guard = none) (s x : Operand) (tx : TypeId)
    (ho : o.op = .call { callee := .builtin .append, args := #[s, x], argTypes := #[t, tx] })
    {G : Nat → Prop} {v : Value} {n : Nat} {xs : List Value} (hv : a.eval s = v) (h : Rk k G w v n xs) (hG : ∀ k, w.heap.size ≤ k → G k)
    (xv : Value) (m : Nat) (ys : List Value) (hx : a.eval x = xv) (hs : Src P k tx xv m ys w) (hb : (n + m) * bytes ≤ 140737488355328) (hl : n + m ≤ 140737488355328)
    (hK : ∀ v' w', Rk k (fun k => G k ∧ (At v k ∨ w.heap.size ≤ k)) w' v' (n + m) (xs ++ ys) → Keep (At v) w w' → wpListIn F nn P ops Q rest (a.put o.dst v') w') : wpListIn F nn P ops Q (o :: rest) a w := by
  refine wpListIn_plain hgd fun K hK' => ?_
  obtain ⟨v', w', hrun, h1, h2⟩ := run_append_rk E h hG tx o.type xv m ys hs hb hl
  unfold Oper.wpIn
  refine ⟨?_, ?_⟩
  · simp [Oper.about, ho, resolve, Target.leads, Sem.run_pure]
  · rw [Oper.semAt_plain F _ _ (by rw [ho]; intro c hc'; cases hc')]
    simp [execOp, ho, resolve, invoke, builtin, hv, hx, hrun, Result.andThen]
    exact hK' _ _ (hK v' w' h1 h2)

/-- What All makes. -/
def AllP (f : Ft) (w : World) (e : Ending) (w' : World) : Prop :=
  ∃ B kv, e = .returned (.func (.func 33) #[] #[.pointer (some ⟨B, 0, none⟩)]) ∧ w.heap.size ≤ B ∧ FBox w' B kv f ∧ KsB (fun b => w.heap.size ≤ b) w' kv f ∧ Lay w w'

set_option maxHeartbeats 4000000 in
set_option maxRecDepth 100000 in
theorem all_any (f : Ft) (hcf : f.count ≤ 100000) (w : World) (v : Value) (hf : FAt w v f) : Calls Try.prog 23 #[v] w (AllP f w) := by
  obtain ⟨kv, rfl, hks⟩ := hf
  obtain ⟨ak, ck, rfl⟩ := hks.shape
  have hal : Lay w (w.alloc (.cells #[.int .i64 f.op, .string f.name, .string f.text, .slice ak f.kids.length ck] 26)) := (Keep.refl _ _).alloc _
  have hcl := clone_any f.count f _ (f.val (.slice ak f.kids.length ck)) (Nat.le_refl _) hcf ⟨_, rfl, KsAt.below hal.below _ _ hks⟩
  have HAL := Lib.hid hal
  simp only [Ft.val] at hcl ⊢
  have HCL := Lib.hid hcl
  clear hal hcl hks
  go_enter Try.func23, Try.ntmps23
  go_wp2_with (go_at_call 32; refine HCL.out.mono ?_; rintro e w2 ⟨kv2, rfl, hkb, hl2⟩; obtain ⟨a2, c2, rfl⟩ := hkb.shape; simp only [Ft.val])
  go_ret
  have hl3 : Lay w2 (w2.alloc (.cells #[.int .i64 f.op, .string f.name, .string f.text, .slice a2 f.kids.length c2] 26)) := (Keep.refl _ _).alloc _
  refine ⟨_, _, rfl, (HAL.out.trans hl2).size, FBox.new _ _ _, ?_, (HAL.out.trans hl2).trans hl3⟩
  exact KsB.keep hl3.size (fun b _ hlt => hl3.block hlt) _ _ (KsB.mono (fun b _ hb => Nat.le_trans HAL.out.size hb) _ _ hkb)

/-- What is told, as rows. -/
def rowsN (l : List (Ft × Nat)) : List Ft.Row := l.map Ft.toRow

/-- The blocks from B on. -/
def From (B : Nat) : Nat → Prop := fun k => B ≤ k

/-- What has come lies in 'out'. -/
def Outs (B : Nat) (m : Int) (l : List (Ft × Nat)) : Stance := fun G W =>
  ∃ v, Box W (B + 1) 28 v ∧ Box W B 3 (.int .i64 m) ∧ Rk 5 (From (B + 2)) W v l.length (flatW (rowsN l)) ∧ G = (fun k => k = B ∨ k = B + 1 ∨ At v k)

theorem Outs.stable (B : Nat) (m : Int) (l : List (Ft × Nat)) : Stable (Outs B m l) := by
  rintro G W W' ⟨v, h1, h2, h3, rfl⟩ _ hk
  exact ⟨v, h1.keep hk (fun h => h (.inr (.inl rfl))), h2.keep hk (fun h => h (.inl rfl)), h3.keep hk (fun k _ ha _ h => h (.inr (.inr ha))), rfl⟩

theorem and_stable {p : Prop} {J : Stance} (h : Stable J) : Stable (fun G W => p ∧ J G W) := fun G W W' hj hl hk => ⟨hj.1, h G W W' hj.2 hl hk⟩

theorem outs_next {B : Nat} {m : Int} {l : List (Ft × Nat)} {x : Ft × Nat} {W w1 : World} {v v' : Value} {o : Obj} (hbo : Box W (B + 1) 28 v) (hbm : Box W B 3 (.int .i64 m)) (hrs : Rk 5 (From (B + 2)) W v l.length (flatW (rowsN l)))
    (hown : Rk 5 (fun k => From (B + 2) k ∧ (At v k ∨ W.heap.size + 1 ≤ k)) w1 v' (l.length + 1) (flatW (rowsN l) ++ flatW [Ft.toRow x])) (hk : Keep (At v) (W.alloc o) w1) :
    Box w1 (B + 1) 28 v ∧ Next (Outs B m (l ++ [x])) (fun k => k = B ∨ k = B + 1 ∨ At v k) W (w1.setCell ⟨B + 1, 0, none⟩ v') := by
  have hno : ∀ k, At v k → B + 2 ≤ k := fun k h => (hrs.at h).1
  have hno' : ∀ k, At v' k → B + 2 ≤ k := fun k h => (hown.at h).1.1
  have hb1 : Box w1 (B + 1) 28 v := (hbo.alloc o).keep hk (fun h => by have := hno _ h; omega)
  have hm1 : Box w1 B 3 (.int .i64 m) := (hbm.alloc o).keep hk (fun h => by have := hno _ h; omega)
  have hks : Keep (fun k => k = B + 1) w1 (w1.setCell ⟨B + 1, 0, none⟩ v') := keep_setCell w1 (B + 1) v' rfl
  have e : flatW (rowsN (l ++ [x])) = flatW (rowsN l) ++ flatW [Ft.toRow x] := by rw [← flatW_append]; simp [rowsN]
  refine ⟨hb1, fun k => k = B ∨ k = B + 1 ∨ At v' k, ⟨v', hb1.set v', hm1.keep hks (fun h => by omega), ?_, rfl⟩, fun k hk' => ?_, fun k hk' => ?_, ?_⟩
  · rw [e, List.length_append, List.length_singleton]
    exact (hown.mono fun k h _ => h.1).keep hks (fun k _ ha _ h => by have := hno' k ha; omega)
  · rw [show (w1.setCell ⟨B + 1, 0, none⟩ v').heap.size = w1.heap.size by simp [World.setCell]]
    rcases hk' with rfl | rfl | hk'
    · exact hm1.lt
    · exact hb1.lt
    · exact (hown.at hk').2
  · rcases hk' with rfl | rfl | hk'
    · exact .inl (.inl rfl)
    · exact .inl (.inr (.inl rfl))
    · rcases (hown.at hk').1.2 with h | h
      · exact .inl (.inr (.inr h))
      · exact .inr (by omega)
  · refine ((Keep.refl _ W).alloc o).trans ((hk.mono fun k _ h => .inr (.inr h)).trans (hks.mono fun k _ h => .inr (.inl h)))

theorem func_eqIn (W : World) (d g : Nat) (lb : Array Value) : (Op.equalIn (d + 1) 52 (.func (.func g) #[] lb) .nilFunc).run Try.prog W = .ok false W := by
  simp [Op.equalIn, run_underlying Try.underlying52]
theorem func_ne (g : Nat) (lb : Array Value) (W : World) : (binOp .eql 52 (.func (.func g) #[] lb) .nilFunc).run Try.prog W = .ok (.bool false) W := by
  simp only [binOp]
  simp [Op.equal, Op.maxDepth, func_eqIn W 9999 g lb]

/-- Between two rounds; and where one has left. -/
def GoneI (B : Nat) (m : Int) (pre : List (Ft × Nat)) : Stance := fun G W => (pre.length : Int) ≤ max m 0 ∧ Outs B m pre G W
def GoneX (B : Nat) (m : Int) (c : Code) (pre : List (Ft × Nat)) : Stance := fun G W => (c = .exit 0 ∧ pre.length = m.toNat + 1) ∧ Outs B m pre.dropLast G W

/-- Of a row that is told up to one more than so many. -/
theorem take_one_more {α : Type} {xs pre : List α} {n : Nat} (h : pre <+: xs) (hl : pre.length = n + 1) : pre.dropLast = xs.take n := by
  obtain ⟨r, rfl⟩ := h
  rw [List.dropLast_eq_take, hl, List.take_append_of_le_length (by omega)]
  rfl

/-- Behind the loop. -/
theorem outs_left {l : List (Ft × Nat)} {G0 : Nat → Prop} {w W0 We : World} {D : Nat} {J : Stance} {v : Value} {G' : Nat → Prop} (hlf : Left J G0 W0 We D) (hJ : Stable J) (hk1 : Lay w W0) (hG0 : ∀ k, G0 k → w.heap.size ≤ k)
    (hrs : Rk 5 (From w.heap.size) We v l.length (flatW (rowsN l))) (hD : ¬ G' D) (hG' : ∀ k, At v k → G' k) :
    Rk 5 (From w.heap.size) (We.putObj D (.deferred none)) v l.length (flatW (rowsN l)) ∧ Lay w (We.putObj D (.deferred none)) :=
  ⟨hrs.keep ((Keep.refl (fun k => k = D) We).put _ (fun _ => rfl)) (fun k _ ha _ e => hD (by subst e; exact hG' _ ha)), Keep.after (H := fun _ => False) (fun k hk => .inr (hG0 k hk)) hk1 (hlf.shut hJ).keep⟩

/-- What is handed back. -/
def GoneP (f : Ft) (m : Int) (w : World) (e : Ending) (w' : World) : Prop :=
  ∃ v, e = .returned v ∧ Rk 5 (From w.heap.size) w' v ((Ft.rows 0 f).take m.toNat).length (flatW ((Ft.rows 0 f).take m.toNat)) ∧ Lay w w'

set_option maxHeartbeats 8000000 in
set_option maxRecDepth 100000 in
theorem gone_any (f : Ft) (hcf : f.count ≤ 100000) (m : Int) (w : World) (v : Value) (hf : FAt w v f) : Calls Try.prog 12 #[v, .int .i64 m] w (GoneP f m w) := by
  obtain ⟨i32, z32, E32⟩ := elem32
  have hne := func_ne 33
  obtain ⟨kv, rfl, hks⟩ := hf
  obtain ⟨ak, ck, rfl⟩ := hks.shape
  simp only [Ft.val]
  obtain ⟨W0, hW0⟩ : ∃ W0, W0 = ((w.alloc (.cells #[.int .i64 f.op, .string f.name, .string f.text, .slice ak f.kids.length ck] 26)).alloc (.cells #[.int .i64 m] 3)).alloc (.cells #[.slice none 0 0] 28) := ⟨_, rfl⟩
  have hl0 : Lay w W0 := by rw [hW0]; exact (((Keep.refl _ _).alloc _).alloc _).alloc _
  have hs0 : W0.heap.size = w.heap.size + 3 := by rw [hW0]; simp
  have hm0 : Box W0 (w.heap.size + 1) 3 (.int .i64 m) := by
    rw [hW0]
    have := (Box.new (w.alloc (.cells #[.int .i64 f.op, .string f.name, .string f.text, .slice ak f.kids.length ck] 26)) 3 (.int .i64 m)).alloc (.cells #[.slice none 0 0] 28)
    rwa [World.size_alloc] at this
  have ho0 : Box W0 (w.heap.size + 2) 28 (.slice none 0 0) := by
    rw [hW0]
    have := Box.new ((w.alloc (.cells #[.int .i64 f.op, .string f.name, .string f.text, .slice ak f.kids.length ck] 26)).alloc (.cells #[.int .i64 m] 3)) 28 (.slice none 0 0)
    rwa [World.size_alloc, World.size_alloc] at this
  have hca := all_any f hcf W0 (f.val (.slice ak f.kids.length ck)) ⟨_, rfl, KsAt.below hl0.below _ _ hks⟩
  simp only [Ft.val] at hca
  have HCA := Lib.hid hca
  have HL0 := Lib.hid hl0
  have HS0 := Lib.hid hs0
  clear hks hca hl0 hs0
  refine (callsIn_wide (n := 9)).1 ?_
  refine callsIn_of_wp_marks Try.func12 rfl trivial ?_
  simp only [Try.ntmps12, List.size_toArray, List.length_cons, List.length_nil, Nat.reduceAdd, Nat.reduceSub, Array.replicate_succ, Array.replicate_zero, List.push_toArray, List.append_toArray, List.nil_append, List.cons_append]
  gi_wp2_with fail
  rw [← hW0]
  clear hW0
  gi_wp2_with (gi_at_call 23; refine (callsIn_wide.2 HCA.out).mono ?_; rintro e W1 ⟨B, kv1, rfl, hB, hfb, hkb, hl1⟩)
  have hm1 := hm0.keep hl1 (fun h => h)
  have ho1 := ho0.keep hl1 (fun h => h)
  have HG := all_gives (fun k => W0.heap.size ≤ k ∧ k < W1.heap.size) f hcf B kv1 W1 hfb ⟨hB, hfb.lt⟩ (fun k hk => hk.2) (KsB.mono (fun b hlt hb => ⟨hb, hlt⟩) _ _ hkb)
  have HLT : Hid (Lay w W1) := Lib.hid (HL0.out.trans hl1)
  have hs01 := hl1.size
  have hs0 := HS0.out
  obtain ⟨ak1, ck1, rfl⟩ := hkb.shape
  clear hkb hfb hl1 hm0 ho0
  refine wpIn_over (gf := 33) (lb := #[.pointer (some ⟨B, 0, none⟩)]) rfl (enters_of Try.func33 (by kernel_rfl) rfl) HG (fun k hk => hk.2) (fun x args _ ⟨a, c, h, _⟩ => by rw [h]; rfl)
    (GoneI (w.heap.size + 1) m) (GoneX (w.heap.size + 1) m)
    (fun s => and_stable (Outs.stable _ _ _)) (fun c s => and_stable (Outs.stable _ _ _)) (fun k => k = w.heap.size + 1 ∨ k = w.heap.size + 1 + 1 ∨ At (.slice none 0 0) k)
    (fun k hk h => by
      rcases h with rfl | rfl | ⟨_, _, h⟩
      · omega
      · omega
      · cases h)
    ⟨by simp; omega, .slice none 0 0, ho1, hm1, Rk.nil 5 _ _, rfl⟩
    (fun k h => by
      rcases h with rfl | rfl | ⟨_, _, h⟩
      · omega
      · omega
      · cases h)
    (fun x args B' a Wm => ∃ (av : Option Addr) (cv : Nat), x.1.kids.length ≤ 9223372036854775807 ∧ FBox Wm B' (.slice av x.1.kids.length cv) x.1 ∧ a = { tmps := #[.agg #[.int .i64 f.op, .string f.name, .string f.text, .slice ak f.kids.length ck], .int .i64 m, .pointer (some ⟨w.heap.size, 0, none⟩), .pointer (some ⟨w.heap.size + 1, 0, none⟩), .slice none 0 0, .pointer (some ⟨w.heap.size + 2, 0, none⟩), .func (.func 33) #[] #[.pointer (some ⟨B, 0, none⟩)], .pointer (some ⟨B', 0, none⟩), .int .i64 (x.2 : Nat), .agg #[.int .i64 f.op, .string f.name, .string f.text, .slice ak f.kids.length ck], .func (.func 33) #[] #[.pointer (some ⟨B, 0, none⟩)], .func (.func 33) #[] #[.pointer (some ⟨B, 0, none⟩)], .bool false, .func (.func 33) #[] #[.pointer (some ⟨B, 0, none⟩)], .agg #[.int .i64 x.1.op, .string x.1.name, .string x.1.text, .slice av x.1.kids.length cv], .int .i64 (x.2 : Nat), undef, undef, undef, undef, undef, undef, undef, undef, undef, undef, undef, undef, undef, undef, undef, undef, undef, undef, undef], defers := [] })
    (fun _ _ _ _ _ _ ⟨av, cv, h0, h, e⟩ hk => ⟨av, cv, h0, h.keep hk (Nat.lt_irrefl _), e⟩) ?assign ?body ?done ?stop
  case assign =>
    rintro l2 x args W2 K ⟨av, cv, rfl, h63⟩ hK
    have HK := Lib.hid hK
    clear hK
    gi_wp2_with fail
    exact HK.out _ _ ((Keep.refl _ _).alloc _) ⟨av, cv, h63, FBox.new _ _ _, by simp⟩
  case body =>
    rintro l2 pre x args G1 B' a Wz W ⟨_, _, _, _⟩ _ hpx ⟨hle, v, hbo, hbm, hrs, rfl⟩ hlt hBle ⟨av, cv, h63, hfx, rfl⟩
    have hpl : pre.length + 1 ≤ 100000 := by
      have := hpx.length_le
      rw [Ft.nodes_length] at this
      simp at this
      omega
    have hco := hbo.cell
    have hcm := hbm.cell
    obtain ⟨a, c, hv⟩ := hrs.shape
    have hlive : Live (fun k => k = w.heap.size + 1 ∨ k = w.heap.size + 1 + 1 ∨ At v k) W := fun k hk => Nat.lt_of_lt_of_le (hlt k hk) hBle
    have c0 := hfx.c0
    have c1 := hfx.c1
    have c2 := hfx.c2
    have c3 := hfx.c3
    have hfl := hfx.lt
    have hwl := hbo.lt
    by_cases hge : m ≤ pre.length
    · have HST := Lib.hid (Next.mk (J := GoneX (w.heap.size + 1) m (.exit 0) (pre ++ [x])) (W := W) (W' := W) _
        ⟨⟨rfl, by simp; omega⟩, v, hbo, hbm, by rw [List.dropLast_concat]; exact hrs, rfl⟩ hlive (fun k hk => .inl hk) (Keep.refl _ _))
      clear hrs hbo hbm hlive hfx hlt
      subst hv
      gi_wp2_with fail
      exact HST.out
    · have HN := Lib.hid (fun (w1 : World) (v' : Value) (o : Obj) => outs_next (x := x) (w1 := w1) (v' := v') (o := o) hbo hbm hrs)
      have HRS := Lib.hid hrs
      have hsrc : ∀ o' : Unit, Src Try.prog 5 28 (.slice (some ⟨W.heap.size, 0, none⟩) 1 1) 1 (flatW [Ft.toRow x]) (W.alloc (.cells (flatW [Ft.toRow x]).toArray 32)) := fun _ => (rk_new 5 W 1 (flatW [Ft.toRow x]) 32 (flatW_length _) (by omega)).src Try.underlying28 (flatW_one _)
      have HSRC := Lib.hid (hsrc ())
      clear hrs hbo hbm hlive hsrc hfx hlt
      subst hv
      gi_wp2_with (gi_at_builtin; refine wpListIn_append_rk E32 _ rfl _ _ 28 rfl rfl (HRS.out.alloc _) ?c1 (.slice (some ⟨W.heap.size, 0, none⟩) 1 1) 1 (flatW [Ft.toRow x]) rfl HSRC.out ?c2 ?c3 ?_)
      case c1 =>
        intro k hk
        show w.heap.size + 1 + 2 ≤ k
        omega
      case c2 => omega
      case c3 => omega
      intro v' w1 hown' hk'
      obtain ⟨hb1, hn1⟩ := HN.out w1 v' _ hown' hk'
      have hcb := hb1.cell
      have hfb := hb1.frozen
      obtain ⟨a', c', hv'⟩ := hown'.shape
      have HN1 := Lib.hid hn1
      clear hn1 hb1 hown' hk'
      subst hv'
      gi_wp2_with fail
      show Next (GoneI (w.heap.size + 1) m (pre ++ [x])) _ W _
      exact HN1.out.imp fun _ _ h => ⟨by simp; omega, h⟩
  case done =>
    intro D We hlf
    obtain ⟨G', ⟨hle, v, hbo, hbm, hrs, hG'⟩, hl, hg, hk, hD1, hD2, hD3⟩ := id hlf
    have hcb := hbo.cell
    have HO := Lib.hid (outs_left (J := GoneI (w.heap.size + 1) m (Ft.nodes 0 f)) (w := w) (l := Ft.nodes 0 f) hlf (and_stable (Outs.stable _ _ _)) HLT.out (fun k h => by
      rcases h with rfl | rfl | ⟨_, _, h⟩
      · omega
      · omega
      · cases h) (hrs.mono fun k h _ => Nat.le_trans (by omega) h) hD2 (fun k h => by rw [hG']; exact .inr (.inr h)))
    have hxs : (Ft.rows 0 f).take m.toNat = rowsN (Ft.nodes 0 f) := by
      rw [← Ft.nodes_rows, List.take_of_length_le (by rw [List.length_map]; omega)]
      rfl
    have HXS := Lib.hid hxs
    clear hxs hbo hbm hrs hl hg hk hD1 hD2 hD3 hG' hle
    gi_wp2_with fail
    refine ⟨by simp, .inl ⟨_, _, rfl, hlf.takes, ?_⟩⟩
    refine ⟨_, results_tmp rfl _ _ _, v, rfl, ?_, HO.out.2⟩
    rw [HXS.out]
    have := HO.out.1
    unfold rowsN at this ⊢
    rwa [List.length_map]
  case stop =>
    intro D c pre We hpre hlf
    obtain ⟨G', ⟨⟨rfl, hle⟩, v, hbo, hbm, hrs, hG'⟩, hl, hg, hk, hD1, hD2, hD3⟩ := id hlf
    have hcb := hbo.cell
    have HO := Lib.hid (outs_left (J := GoneX (w.heap.size + 1) m (.exit 0) pre) (w := w) (l := pre.dropLast) hlf (and_stable (Outs.stable _ _ _)) HLT.out (fun k h => by
      rcases h with rfl | rfl | ⟨_, _, h⟩
      · omega
      · omega
      · cases h) (hrs.mono fun k h _ => Nat.le_trans (by omega) h) hD2 (fun k h => by rw [hG']; exact .inr (.inr h)))
    have hxs : (Ft.rows 0 f).take m.toNat = rowsN pre.dropLast := by
      rw [take_one_more hpre hle, ← Ft.nodes_rows]
      unfold rowsN
      rw [List.map_take]
    have HXS := Lib.hid hxs
    clear hxs hbo hbm hrs hl hg hk hD1 hD2 hD3 hG' hle
    gi_wp2_with fail
    refine ⟨by simp, .inl ⟨_, _, rfl, hlf.takes, ?_⟩⟩
    refine ⟨_, results_tmp rfl _ _ _, v, rfl, ?_, HO.out.2⟩
    rw [HXS.out]
    have := HO.out.1
    unfold rowsN at this ⊢
    rwa [List.length_map]

end Go.Proofs.Ytgmahdeaggjjgaa
