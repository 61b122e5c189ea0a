/-
  magpielaw03.gone: WHAT IS GONE OVER, UP TO SO MANY.
-/
import Derived.Test.YtgjlbcmejanfaaaDoorInnerIt
import Derived.Test.YtgjlbcmejanfaaaDoorRow
namespace Go.Proofs.YtgjlbcmejanfaaaDoor
open Go.RowKit Go Go.Shelf

attribute [local go_sem] Oper.semAt_some wide_fn wide_depth

theorem info9 : (Tryd.prog.info? 9).map (fun i => (i.zero, i.size, i.bytes)) = some (some (.string ByteArray.empty), 1, 16) := by kernel_rfl
theorem elem9 : ∃ i, Elem Tryd.prog 23 9 i (.string ByteArray.empty) 16 := by
  obtain ⟨i, hi, hz, hsz, hby⟩ := info_parts info9
  exact ⟨i, Tryd.underlying23, hi, hz, hsz, hby, rfl⟩

/-- Texts, as cells. -/
def strs (l : List ByteArray) : List Value := l.map Value.string
theorem strs_length (l : List ByteArray) : (strs l).length = l.length := by simp [strs]
theorem strs_one (l : List ByteArray) : ∀ u ∈ strs l, u.oneCell' = true := by
  intro u hu
  obtain ⟨s, _, rfl⟩ := List.mem_map.1 hu
  rfl

theorem keep_setCell {G : Nat → Prop} (w : World) (b : Nat) (v : Value) (h : G b) : Keep G w (w.setCell ⟨b, 0, none⟩ v) :=
  ⟨rfl, rfl, rfl, (KeepsWalks.setCell w _ v).size, fun k _ hn => Below.heap_setCell _ _ _ k (fun e => hn (by rw [e]; exact h))⟩
theorem Box.set {W : World} {B : Nat} {t : TypeId} {v : Value} (v' : Value) (h : Box W B t v) : Box (W.setCell ⟨B, 0, none⟩ v') B t v' := by
  obtain ⟨hlt, hk⟩ := Array.getElem?_eq_some_iff.1 h
  show (W.heap.modify B _)[B]? = _
  rw [Array.getElem?_eq_getElem (by rw [Array.size_modify]; exact hlt), Array.getElem_modify_self, hk]
  rfl

/-- The blocks from B on. -/
def From (B : Nat) : Nat → Prop := fun k => B ≤ k

/-- What has come lies in 'out'. -/
def Outs (B : Nat) (m : Int) (l : List ByteArray) : Stance := fun G W =>
  ∃ v, Box W (B + 1) 23 v ∧ Box W B 3 (.int .i64 m) ∧ Rs (From (B + 2)) W v (strs l) ∧ G = (fun k => k = B ∨ k = B + 1 ∨ At v k)

theorem Outs.stable (B : Nat) (m : Int) (l : List ByteArray) : Stable (Outs B m l) := by
  rintro G W W' ⟨v, h1, h2, h3, rfl⟩ _ hk
  exact ⟨v, h1.keep hk (fun h => h (.inr (.inl rfl))), h2.keep hk (fun h => h (.inl rfl)), h3.keep hk (fun k _ ha _ h => h (.inr (.inr ha))), rfl⟩

theorem and_stable {p : Prop} {J : Stance} (h : Stable J) : Stable (fun G W => p ∧ J G W) := fun G W W' hj hl hk => ⟨hj.1, h G W W' hj.2 hl hk⟩

theorem outs_next {B : Nat} {m : Int} {l : List ByteArray} {x : ByteArray} {W w1 : World} {v v' : Value} {o : Obj} (hbo : Box W (B + 1) 23 v) (hbm : Box W B 3 (.int .i64 m)) (hrs : Rs (From (B + 2)) W v (strs l))
    (hown : Rs (fun k => From (B + 2) k ∧ (At v k ∨ W.heap.size + 1 ≤ k)) w1 v' (strs l ++ [.string x])) (hk : Keep (At v) (W.alloc o) w1) :
    Box w1 (B + 1) 23 v ∧ Next (Outs B m (l ++ [x])) (fun k => k = B ∨ k = B + 1 ∨ At v k) W (w1.setCell ⟨B + 1, 0, none⟩ v') := by
  have hno : ∀ k, At v k → B + 2 ≤ k := fun k h => (hrs.at h).1
  have hno' : ∀ k, At v' k → B + 2 ≤ k := fun k h => (hown.at h).1.1
  have hb1 : Box w1 (B + 1) 23 v := (hbo.alloc o).keep hk (fun h => by have := hno _ h; omega)
  have hm1 : Box w1 B 3 (.int .i64 m) := (hbm.alloc o).keep hk (fun h => by have := hno _ h; omega)
  have hks : Keep (fun k => k = B + 1) w1 (w1.setCell ⟨B + 1, 0, none⟩ v') := keep_setCell w1 (B + 1) v' rfl
  have e : strs (l ++ [x]) = strs l ++ [.string x] := by simp [strs]
  refine ⟨hb1, fun k => k = B ∨ k = B + 1 ∨ At v' k, ⟨v', hb1.set v', hm1.keep hks (fun h => by omega), ?_, rfl⟩, fun k hk' => ?_, fun k hk' => ?_, ?_⟩
  · rw [e]
    exact (hown.mono fun k h _ => h.1).keep hks (fun k _ ha _ h => by have := hno' k ha; omega)
  · rw [show (w1.setCell ⟨B + 1, 0, none⟩ v').heap.size = w1.heap.size by simp]
    rcases hk' with rfl | rfl | hk'
    · exact hm1.lt
    · exact hb1.lt
    · exact (hown.at hk').2
  · rcases hk' with rfl | rfl | hk'
    · exact .inl (.inl rfl)
    · exact .inl (.inr (.inl rfl))
    · rcases (hown.at hk').1.2 with h | h
      · exact .inl (.inr (.inr h))
      · exact .inr (by omega)
  · refine ((Keep.refl _ W).alloc o).trans ((hk.mono fun k _ h => .inr (.inr h)).trans (hks.mono fun k _ h => .inr (.inl h)))

theorem func_eqIn (W : World) (d g : Nat) (lb : Array Value) : (Op.equalIn (d + 1) 28 (.func (.func g) #[] lb) .nilFunc).run Tryd.prog W = .ok false W := by
  simp [Op.equalIn, run_underlying Tryd.underlying28]
theorem func_ne (g : Nat) (lb : Array Value) (W : World) : (binOp .eql 28 (.func (.func g) #[] lb) .nilFunc).run Tryd.prog W = .ok (.bool false) W := by
  simp only [binOp]
  simp [Op.equal, Op.maxDepth, func_eqIn W 9999 g lb]

/-- Between two rounds; and where one has left. -/
def GoneI (B : Nat) (m : Int) (pre : List ByteArray) : Stance := fun G W => (pre.length : Int) ≤ max m 0 ∧ Outs B m pre G W
def GoneX (B : Nat) (m : Int) (c : Code) (pre : List ByteArray) : Stance := fun G W => (c = .exit 0 ∧ pre.length = m.toNat + 1) ∧ Outs B m pre.dropLast G W

/-- What is handed back. -/
theorem outs_left {B : Nat} {l : List ByteArray} {G0 : Nat → Prop} {w W0 We : World} {D : Nat} {J : Stance} {v : Value} {G' : Nat → Prop} (hB : B = w.heap.size) (hlf : Left J G0 W0 We D) (hJ : Stable J) (hk1 : ∀ H, Keep H w W0) (hG0 : ∀ k, G0 k → B ≤ k)
    (hrs : Rs (From (B + 2)) We v (strs l)) (hD : ¬ G' D) (hG' : ∀ k, At v k → G' k) :
    Rs (From w.heap.size) (We.putObj D (.deferred none)) v (strs l) ∧ Below w.heap.size w (We.putObj D (.deferred none)) := by
  subst hB
  refine ⟨?_, ?_⟩
  · refine (hrs.mono fun k h _ => ?_).keep ((Keep.refl (fun k => k = D) We).put _ (fun _ => rfl)) (fun k _ ha _ e => hD (by subst e; exact hG' _ ha))
    have h : w.heap.size + 2 ≤ k := h
    exact Nat.le_trans (by omega) h
  · exact ((hk1 G0).trans (hlf.shut hJ).keep |>.below hG0 (Nat.le_refl _))

/-- Of a row that is told up to one more than so many. -/
theorem take_one_more {xs pre : List ByteArray} {n : Nat} (h : pre <+: xs) (hl : pre.length = n + 1) : pre.dropLast = xs.take n := by
  obtain ⟨r, rfl⟩ := h
  rw [List.dropLast_eq_take, hl, List.take_append_of_le_length (by omega)]
  rfl

set_option maxHeartbeats 4000000 in
set_option maxRecDepth 100000 in
theorem gone_any {g : Nat} {lb : Array Value} {C : Nat → Prop} {xs : List ByteArray} (eg : ∀ args w, (callFunc g args).run Tryd.prog w = .ok (.enter g args) w) (w : World) (hC : ∀ k, C k → k < w.heap.size) (hseq : Gives Tryd.prog g lb C encS xs w) (m : Int) (hxl : xs.length ≤ 4294967296) :
    Calls Tryd.prog 9 #[.func (.func g) #[] lb, .int .i64 m] w fun e w' => ∃ v, e = .returned v ∧ Rs (From w.heap.size) w' v (strs (xs.take m.toNat)) ∧ Below w.heap.size w w' := by
  obtain ⟨i9, E9⟩ := elem9
  refine (callsIn_wide (n := 9)).1 ?_
  refine callsIn_of_wp_marks Tryd.func9 rfl trivial ?_
  simp only [Tryd.ntmps9, List.size_toArray, List.length_cons, List.length_nil, Nat.reduceAdd, Nat.reduceSub, Array.replicate_succ, Array.replicate_zero, List.push_toArray, List.append_toArray, List.nil_append, List.cons_append]
  have hne := func_ne g lb
  gi_wp2
  have hm0 := Box.new w 3 (.int .i64 m)
  have ho0 := Box.new (w.alloc (.cells #[.int .i64 m] 3)) 23 (.slice none 0 0)
  rw [World.size_alloc] at ho0
  have hk0 : ∀ H, Keep H w ((w.alloc (.cells #[.int .i64 m] 3)).alloc (.cells #[.slice none 0 0] 23)) := fun H => ((Keep.refl H w).alloc _).alloc _
  obtain ⟨W0, hW0⟩ : ∃ W0, (w.alloc (.cells #[.int .i64 m] 3)).alloc (.cells #[.slice none 0 0] 23) = W0 := ⟨_, rfl⟩
  have hsz : W0.heap.size = w.heap.size + 2 := by rw [← hW0]; simp
  have hm1 : Box W0 w.heap.size 3 (.int .i64 m) := by rw [← hW0]; exact hm0.alloc _
  have ho1 : Box W0 (w.heap.size + 1) 23 (.slice none 0 0) := by rw [← hW0]; exact ho0
  have hk1 : ∀ H, Keep H w W0 := fun H => by rw [← hW0]; exact hk0 H
  rw [hW0]
  have HSZ := Lib.hid hsz
  clear hm0 ho0 hk0 hW0 hsz
  refine wpIn_over (gf := g) (lb := lb) rfl eg (hseq.later (hk1 _)) (fun k hk => by rw [HSZ.out]; have := hC k hk; omega) (fun _ => rfl)
    (GoneI w.heap.size m) (GoneX w.heap.size m)
    (fun s => and_stable (Outs.stable _ _ _)) (fun c s => and_stable (Outs.stable _ _ _)) (fun k => k = w.heap.size ∨ k = w.heap.size + 1 ∨ At (.slice none 0 0) k)
    (fun k hk h => by
      have := hC k hk
      rcases h with rfl | rfl | ⟨_, _, h⟩
      · omega
      · omega
      · cases h)
    ⟨by simp; omega, .slice none 0 0, ho1, hm1, Rs.nil _ _, rfl⟩
    (fun k h => by
      rw [HSZ.out]
      rcases h with rfl | rfl | ⟨_, _, h⟩
      · omega
      · omega
      · cases h)
    (fun x => { tmps := #[.func (.func g) #[] lb, .int .i64 m, undef, .pointer (some ⟨w.heap.size, 0, none⟩), .slice none 0 0, .pointer (some ⟨w.heap.size + 1, 0, none⟩), .string x, .func (.func g) #[] lb, .bool false, .func (.func g) #[] lb, .string x, undef, undef, undef, undef, undef, undef, undef, undef, undef], defers := [] }) ?assign ?body ?done ?stop
  case assign =>
    intro l2 x W2 K hK
    dsimp only [encS]
    gi_wp2
    exact hK
  case body =>
    rintro l2 pre x G1 W hpx ⟨hle, v, hbo, hbm, hrs, rfl⟩ hlive
    have hpl : pre.length + 1 ≤ 4294967296 := by
      have := hpx.length_le
      simp at this
      omega
    have hco := hbo.cell
    have hcm := hbm.cell
    have hlen : (strs pre).length = pre.length := strs_length pre
    obtain ⟨a, c, hv⟩ := hrs.shape
    rw [hlen] at hv
    by_cases hge : m ≤ pre.length
    · have HST := Lib.hid (Next.mk (J := GoneX w.heap.size m (.exit 0) (pre ++ [x])) (W := W) (W' := W) _
        ⟨⟨rfl, by simp; omega⟩, v, hbo, hbm, by rw [List.dropLast_concat]; exact hrs, rfl⟩ hlive (fun k hk => .inl hk) (Keep.refl _ _))
      clear hrs hbo hbm hlen hlive
      subst hv
      gi_wp2
      exact HST.out
    · have HN := Lib.hid (fun (w1 : World) (v' : Value) (o : Obj) => outs_next (x := x) (w1 := w1) (v' := v') (o := o) hbo hbm hrs)
      have HRS := Lib.hid hrs
      have hsrc : ∀ o' : Unit, Src Tryd.prog 1 23 (.slice (some ⟨W.heap.size, 0, none⟩) 1 1) [Value.string x].length [Value.string x] (W.alloc (.cells #[.string x] 9)) := fun _ => (rs_new (P := Tryd.prog) W [.string x] 9 (by simp)).src Tryd.underlying23 (by simp [Value.oneCell'])
      have HSRC := Lib.hid (hsrc ())
      have HLEN := Lib.hid hlen
      have hwl := hbo.lt
      clear hrs hbo hbm hlive hsrc hlen
      subst hv
      gi_wp2_with (gi_at_builtin; refine wpListIn_append_rs E9 _ rfl _ _ 23 rfl rfl (HRS.out.alloc _) ?c1 (.slice (some ⟨W.heap.size, 0, none⟩) 1 1) [.string x] rfl HSRC.out ?c2 ?c3 ?_)
      case c1 =>
        intro k hk
        show w.heap.size + 2 ≤ k
        omega
      case c2 => rw [HLEN.out]; omega
      case c3 => rw [HLEN.out]; omega
      intro v' w1 hown' hk'
      obtain ⟨hb1, hn1⟩ := HN.out w1 v' _ hown' hk'
      have hcb := hb1.cell
      have hfb := hb1.frozen
      obtain ⟨a', c', hv'⟩ := hown'.shape
      have hvl : (strs pre ++ [Value.string x]).length = pre.length + 1 := by rw [List.length_append, HLEN.out]; rfl
      rw [hvl] at hv'
      clear hvl
      have HN1 := Lib.hid hn1
      clear hn1 hb1 hown' hk'
      subst hv'
      gi_wp2
      show Next (GoneI w.heap.size m (pre ++ [x])) _ W _
      exact HN1.out.imp fun _ _ h => ⟨by simp; omega, h⟩
  case done =>
    intro D We hlf
    obtain ⟨G', ⟨hle, v, hbo, hbm, hrs, hG'⟩, hl, hg, hk, hD1, hD2, hD3⟩ := id hlf
    have hcb := hbo.cell
    have HO := Lib.hid (outs_left rfl hlf (and_stable (Outs.stable _ _ _)) hk1 (fun k h => by
      rcases h with rfl | rfl | ⟨_, _, h⟩
      · exact Nat.le_refl _
      · omega
      · cases h) hrs hD2 (fun k h => by rw [hG']; exact .inr (.inr h)))
    have hxs : xs.take m.toNat = xs := List.take_of_length_le (by omega)
    have HXS := Lib.hid hxs
    clear hxs hbo hbm hrs hl hg hk hD1 hD2 hD3 hG' hle
    gi_wp2
    refine ⟨by simp, .inl ⟨_, _, rfl, hlf.takes, ?_⟩⟩
    exact ⟨_, results_tmp rfl _ _ _, v, rfl, by rw [HXS.out]; exact HO.out.1, HO.out.2⟩
  case stop =>
    intro D c pre We hpre hlf
    obtain ⟨G', ⟨⟨rfl, hle⟩, v, hbo, hbm, hrs, hG'⟩, hl, hg, hk, hD1, hD2, hD3⟩ := id hlf
    have hcb := hbo.cell
    have HO := Lib.hid (outs_left rfl hlf (and_stable (Outs.stable _ _ _)) hk1 (fun k h => by
      rcases h with rfl | rfl | ⟨_, _, h⟩
      · exact Nat.le_refl _
      · omega
      · cases h) hrs hD2 (fun k h => by rw [hG']; exact .inr (.inr h)))
    have HXS := Lib.hid (take_one_more hpre hle)
    clear hbo hbm hrs hl hg hk hD1 hD2 hD3 hG' hle
    gi_wp2
    refine ⟨by simp, .inl ⟨_, _, rfl, hlf.takes, ?_⟩⟩
    exact ⟨_, results_tmp rfl _ _ _, v, rfl, by rw [← HXS.out]; exact HO.out.1, HO.out.2⟩

end Go.Proofs.YtgjlbcmejanfaaaDoor
