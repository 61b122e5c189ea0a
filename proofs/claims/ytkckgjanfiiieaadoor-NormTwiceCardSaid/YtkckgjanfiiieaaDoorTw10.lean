/-
  not not CHANGES NOTHING; MATCHERS IN ANOTHER ORDER, OR TWICE, DON'T EITHER, NOR DOES A PAGE: the law's walk.
-/
import Derived.Test.YtkckgjanfiiieaaDoorAl10
import Derived.Test.YtkckgjanfiiieaaDoorKy10
import Derived.Test.YtkckgjanfiiieaaDoorQv10
import Derived.Test.YtkckgjanfiiieaaDoorFlA
namespace Go.Proofs.YtkckgjanfiiieaaDoor
open Go.RowKit Go

attribute [local go_sem] Oper.semAt_some wide_fn wide_depth

/-- Not of not of a filter. -/
def notnot (f : Ft) : Ft := .mk 6 ⟨#[]⟩ ⟨#[]⟩ [.mk 6 ⟨#[]⟩ ⟨#[]⟩ [f]]

theorem notnot_at {W : World} {D1 D2 : Nat} {t1 t2 : TypeId} {f : Ft} {kv : Value} (h1 : CB W D1 t1 #[.int .i64 f.op, .string f.name, .string f.text, kv]) (h2 : CB W D2 t2 #[.int .i64 6, .string ⟨#[]⟩, .string ⟨#[]⟩, .slice (some ⟨D1, 0, none⟩) 1 1]) (hk : KsAt W kv f) :
    KsAt W (.slice (some ⟨D2, 0, none⟩) 1 1) (notnot f) := by
  unfold notnot
  rw [KsAt]
  refine ⟨_, _, rfl, by simp, .inr ⟨D2, 0, rfl, h2.lt, ?_⟩⟩
  rw [KAt, KAt]
  refine ⟨⟨.slice (some ⟨D1, 0, none⟩) 1 1, h2.cell 0, h2.cell 1, h2.cell 2, h2.cell 3, ?_⟩, trivial⟩
  rw [KsAt]
  refine ⟨_, _, rfl, by simp, .inr ⟨D1, 0, rfl, h1.lt, ?_⟩⟩
  rw [KAt, KAt]
  exact ⟨⟨kv, h1.cell 0, h1.cell 1, h1.cell 2, h1.cell 3, hk⟩, trivial⟩

theorem MsAt.takeN {w : World} {a : Option Addr} {c : Nat} {l : List Mt} (h : MsAt w (.slice a l.length c) l) {n : Nat} (hn : n ≤ l.length) (c' : Nat) : MsAt w (.slice a n c') (l.take n) := by
  obtain ⟨a', cap, hv, h1, h⟩ := h
  obtain ⟨rfl, rfl⟩ : a = a' ∧ c = cap := by simpa using hv
  have hl : (l.take n).length = n := by rw [List.length_take, Nat.min_eq_left hn]
  refine ⟨a, c', by rw [hl], by omega, ?_⟩
  rcases h with h | ⟨b, off, ha, hlt, hc⟩
  · exact .inl (by rw [h]; simp)
  · refine .inr ⟨b, off, ha, hlt, fun i hi => ?_⟩
    rw [hl] at hi
    rw [List.getElem_take]
    exact hc i (by omega)

theorem MsAt.dropN {w : World} {a a1 : Option Addr} {c : Nat} {l : List Mt} (h : MsAt w (.slice a l.length c) l) {n : Nat} (hn : n ≤ l.length) (ha1 : l.length = n ∨ ∀ b off, a = some ⟨b, off, none⟩ → a1 = some ⟨b, off + n * 3, none⟩) (c' : Nat) : MsAt w (.slice a1 (l.length - n) c') (l.drop n) := by
  obtain ⟨a', cap, hv, h1, h⟩ := h
  obtain ⟨rfl, rfl⟩ : a = a' ∧ c = cap := by simpa using hv
  have hl : (l.drop n).length = l.length - n := List.length_drop
  refine ⟨a1, c', by rw [hl], by omega, ?_⟩
  rcases ha1 with e | ha1
  · exact .inl (by rw [← e]; simp)
  · rcases h with h | ⟨b, off, ha, hlt, hc⟩
    · exact .inl (by rw [h]; simp)
    · refine .inr ⟨b, off + n * 3, ha1 b off ha, hlt, fun i hi => ?_⟩
      rw [hl] at hi
      rw [List.getElem_drop]
      have := hc (n + i) (by omega)
      rw [show off + (n + i) * 3 = off + n * 3 + i * 3 by omega] at this
      exact this

/-- How the operations of the appends turn the world. -/
def TR (H0 : Nat) (i : Nat) (u1 u2 : World) : Prop := if i ∈ [0, 5, 8, 13] then Keep (fun b => H0 ≤ b) u1 u2 else if i = 15 then True else Lay u1 u2
theorem TR.same {H0 i : Nat} {u : World} (hi : i ∉ [0, 5, 8, 13]) : TR H0 i u u := by
  unfold TR
  rw [if_neg hi]
  split
  · trivial
  · exact Keep.refl _ _
theorem TR.turn {H0 i : Nat} {u u' : World} (hi : i ∈ [0, 5, 8, 13]) (h : Keep (fun b => H0 ≤ b) u u') : TR H0 i u u' := by
  unfold TR
  rwa [if_pos hi]
theorem TR.lay {H0 i : Nat} {u u' : World} (h : TR H0 i u u') (hi : ¬ i ∈ [0, 5, 8, 13, 15]) : Lay u u' := by
  unfold TR at h
  simp only [List.mem_cons, List.not_mem_nil, or_false, not_or] at hi
  rwa [if_neg (by simp <;> omega), if_neg (by omega)] at h

theorem GV.keep' {cs : List (Option Value)} {S : List Nat} {sp : Nat → Value → World → Prop} {i j : Nat} {ys : Nat → Value} {v : Value} {w w' : World} (hij : i ≠ j) (h : GV cs S sp j ys w) (hsp : j ∈ S → sp j (ys j) w → sp j (ys j) w') : GV cs S sp j (upd ys i v) w' := by
  unfold GV at h ⊢
  by_cases hS : j ∈ S
  · rw [if_pos hS] at h ⊢
    rw [upd_other ys v (Ne.symm hij)]
    exact hsp hS h
  · rw [if_neg hS] at h ⊢
    intro u hu
    rw [upd_other ys v (Ne.symm hij)]
    exact h u hu

/-- What the operations of the appends leave. -/
def TSp (H0 C : Nat) (t : TypeId) (am : Option Addr) (n : Nat) (l M3 : List Mt) (arr : Value → Array Value) : Nat → Value → World → Prop
  | 0, v, w => Rk 3 (fun b => H0 ≤ b) w v 0 (flatM [])
  | 4, v, _ => ∃ a1 c1, v = .slice a1 (l.length - n) c1 ∧ (l.length = n ∨ ∀ b off, am = some ⟨b, off, none⟩ → a1 = some ⟨b, off + n * 3, none⟩)
  | 5, v, w => Rk 3 (fun b => H0 ≤ b) w v (l.length - n) (flatM (l.drop n))
  | 8, v, w => Rk 3 (fun b => H0 ≤ b) w v (l.length - n + l.length) (flatM (l.drop n ++ l))
  | 12, v, _ => ∃ c2, v = .slice am n c2
  | 13, v, w => Rk 3 (fun b => H0 ≤ b) w v M3.length (flatM M3)
  | 15, _, w => ∃ v', CB w C t (arr v') ∧ Rk 3 (fun b => H0 ≤ b) w v' M3.length (flatM M3)
  | _, _, _ => True
theorem TSp.lay {H0 C : Nat} {t : TypeId} {am : Option Addr} {n : Nat} {l M3 : List Mt} {arr : Value → Array Value} : ∀ {j : Nat} {v : Value} {w w' : World}, TSp H0 C t am n l M3 arr j v w → Lay w w' → TSp H0 C t am n l M3 arr j v w' := by
  intro j v w w' h hl
  unfold TSp at h ⊢
  split at h
  · exact h.lay hl
  · exact h
  · exact h.lay hl
  · exact h.lay hl
  · exact h
  · exact h.lay hl
  · obtain ⟨v', h1, h2⟩ := h
    exact ⟨v', h1.keep hl (fun e => e), h2.lay hl⟩
  · trivial

/-- What the last line's operations leave in memory. -/
def ZSp (q : Qy) : Nat → Value → World → Prop
  | 1, v, w => QAt w v (normQ q)
  | 3, v, w => QAt w v (normQ q)
  | _, _, _ => True
theorem ZSp.below {q : Qy} : ∀ j v w w', ZSp q j v w → Below w.heap.size w w' → ZSp q j v w' := by
  intro j v w w' h hb
  unfold ZSp at h ⊢
  split at h
  · exact h.below hb
  · exact h.below hb
  · trivial

theorem query_few (l : List Int) : (Qy.query l).mat.length ≤ 2 := by
  have h := Ft.next_lt (l := l) (n := 3) (p := (Ft.next l 20 (Ft.next l 8 (Ft.next l 2 (Ft.next l 20 0).2).2).2).2) (by decide)
  unfold Qy.query
  dsimp only
  rw [Qy.mats_length]
  omega

set_option maxHeartbeats 16000000 in
set_option maxRecDepth 100000 in
theorem twice_walk (l : List Int) (u : Value) (k : Int) (hk0 : -9223372036854775808 ≤ k) (hk1 : k ≤ 9223372036854775807) (w : World) (hu : IntsAt w u l) (hT : Tabs w) :
    Calls Tryd.prog 4 #[u, .int .i64 k] w fun e w' => e = .returned (.bool true) ∧ Below w.heap.size w w' := by
  obtain ⟨a, cap, rfl, hl63, _⟩ := id hu
  have HA := Lib.hid (alive_any w)
  have HU := Lib.hid hu
  have HT := Lib.hid hT
  clear hu hT
  by_cases hg : 300 < l.length
  · have hd : decide (300 < (l.length : Int)) = true := by simp; omega
    go_enter Tryd.func4, Tryd.ntmps4
    go_wp2_with (go_at_call 6; refine HA.out.mono ?_; rintro e w1 ⟨rfl, hl1⟩)
    go_ret
    exact ⟨rfl, hl1.below⟩
  have d0 : decide (300 < (l.length : Int)) = false := by simp; omega
  clear hg
  go_enter Tryd.func4, Tryd.ntmps4
  go_wp2_with fail
  refine HA.out.mono ?_
  rintro r w1 ⟨rfl, hl1⟩
  have HL1 := Lib.hid hl1
  have HQ1 := Lib.hid (query_sh l w1 _ (HU.out.lay hl1))
  clear hl1 HA
  go_wp2_with fail
  refine HQ1.out.mono ?_
  rintro r w2 ⟨vq, rfl, ⟨mv, kv, rfl, hm, hks, hsh⟩, hl2⟩
  have HGQ := Lib.hid (query_gd' l).1
  have HCQ := Lib.hid (Qy.query_count l)
  have HFQ := Lib.hid (query_few l)
  have HMQ := Lib.hid (made_normQ l)
  generalize Qy.query l = q at hm hks hsh HGQ HCQ HFQ HMQ ⊢
  obtain ⟨am, cm, rfl, _, _⟩ := id hm
  obtain ⟨ak, ck, rfl⟩ := hks.shape
  have HL2 := Lib.hid (Keep.trans HL1.out hl2)
  have HM2 := Lib.hid hm
  have HK2 := Lib.hid hks
  have HSH := Lib.hid hsh
  clear hm hks hsh hl2 HQ1 HL1 HU
  unfold Qy.val
  by_cases hneg : k < 0
  · have hd : decide (k < 0) = true := decide_eq_true hneg
    go_wp2_with fail
    go_ret
    exact ⟨rfl, Lay.below (HL2.out.alloc _)⟩
  have d1 : decide (k < 0) = false := decide_eq_false hneg
  by_cases hbig : (q.mat.length : Int) < k
  · have hd : decide ((q.mat.length : Int) < k) = true := decide_eq_true hbig
    go_wp2_with fail
    go_ret
    exact ⟨rfl, Lay.below (HL2.out.alloc _)⟩
  have d2 : decide ((q.mat.length : Int) < k) = false := decide_eq_false hbig
  obtain ⟨n, rfl⟩ : ∃ n : Nat, k = (n : Int) := ⟨k.toNat, by omega⟩
  have hn : n ≤ q.mat.length := by omega
  have hsz2 : (((w2.alloc (.cells #[.int .i64 q.src, .int .i64 q.til, .slice am q.mat.length cm, .int .i64 q.fil.op, .string q.fil.name, .string q.fil.text, .slice ak q.fil.kids.length ck, .bool q.desc, .int .i64 q.lim, .string q.page] 34)).alloc (.cells #[.int .i64 q.src, .int .i64 q.til, .slice am q.mat.length cm, .int .i64 6, .string ⟨#[]⟩, .string ⟨#[]⟩, .slice (some ⟨w2.heap.size + 1 + 1 + 1, 0, none⟩) 1 1, .bool q.desc, .int .i64 q.lim, .string q.page] 34)).alloc (.cells #[.int .i64 q.fil.op, .string q.fil.name, .string q.fil.text, .slice ak q.fil.kids.length ck] 30)).heap.size = w2.heap.size + 1 + 1 + 1 := by simp
  have hl5 : Lay w2 ((((w2.alloc (.cells #[.int .i64 q.src, .int .i64 q.til, .slice am q.mat.length cm, .int .i64 q.fil.op, .string q.fil.name, .string q.fil.text, .slice ak q.fil.kids.length ck, .bool q.desc, .int .i64 q.lim, .string q.page] 34)).alloc (.cells #[.int .i64 q.src, .int .i64 q.til, .slice am q.mat.length cm, .int .i64 6, .string ⟨#[]⟩, .string ⟨#[]⟩, .slice (some ⟨w2.heap.size + 1 + 1 + 1, 0, none⟩) 1 1, .bool q.desc, .int .i64 q.lim, .string q.page] 34)).alloc (.cells #[.int .i64 q.fil.op, .string q.fil.name, .string q.fil.text, .slice ak q.fil.kids.length ck] 30)).alloc (.cells #[.int .i64 6, .string ⟨#[]⟩, .string ⟨#[]⟩, .slice (some ⟨w2.heap.size + 1 + 1, 0, none⟩) 1 1] 30)) := ((((Keep.refl _ _).alloc _).alloc _).alloc _).alloc _
  have hca : CB ((((w2.alloc (.cells #[.int .i64 q.src, .int .i64 q.til, .slice am q.mat.length cm, .int .i64 q.fil.op, .string q.fil.name, .string q.fil.text, .slice ak q.fil.kids.length ck, .bool q.desc, .int .i64 q.lim, .string q.page] 34)).alloc (.cells #[.int .i64 q.src, .int .i64 q.til, .slice am q.mat.length cm, .int .i64 6, .string ⟨#[]⟩, .string ⟨#[]⟩, .slice (some ⟨w2.heap.size + 1 + 1 + 1, 0, none⟩) 1 1, .bool q.desc, .int .i64 q.lim, .string q.page] 34)).alloc (.cells #[.int .i64 q.fil.op, .string q.fil.name, .string q.fil.text, .slice ak q.fil.kids.length ck] 30)).alloc (.cells #[.int .i64 6, .string ⟨#[]⟩, .string ⟨#[]⟩, .slice (some ⟨w2.heap.size + 1 + 1, 0, none⟩) 1 1] 30)) w2.heap.size 34 #[.int .i64 q.src, .int .i64 q.til, .slice am q.mat.length cm, .int .i64 q.fil.op, .string q.fil.name, .string q.fil.text, .slice ak q.fil.kids.length ck, .bool q.desc, .int .i64 q.lim, .string q.page] := (Below.heap_alloc _ _ _ (by simp <;> omega)).trans ((Below.heap_alloc _ _ _ (by simp <;> omega)).trans ((Below.heap_alloc _ _ _ (by simp)).trans (CB.new w2 34 _)))
  have hcc : CB ((((w2.alloc (.cells #[.int .i64 q.src, .int .i64 q.til, .slice am q.mat.length cm, .int .i64 q.fil.op, .string q.fil.name, .string q.fil.text, .slice ak q.fil.kids.length ck, .bool q.desc, .int .i64 q.lim, .string q.page] 34)).alloc (.cells #[.int .i64 q.src, .int .i64 q.til, .slice am q.mat.length cm, .int .i64 6, .string ⟨#[]⟩, .string ⟨#[]⟩, .slice (some ⟨w2.heap.size + 1 + 1 + 1, 0, none⟩) 1 1, .bool q.desc, .int .i64 q.lim, .string q.page] 34)).alloc (.cells #[.int .i64 q.fil.op, .string q.fil.name, .string q.fil.text, .slice ak q.fil.kids.length ck] 30)).alloc (.cells #[.int .i64 6, .string ⟨#[]⟩, .string ⟨#[]⟩, .slice (some ⟨w2.heap.size + 1 + 1, 0, none⟩) 1 1] 30)) (w2.heap.size + 1) 34 #[.int .i64 q.src, .int .i64 q.til, .slice am q.mat.length cm, .int .i64 6, .string ⟨#[]⟩, .string ⟨#[]⟩, .slice (some ⟨w2.heap.size + 1 + 1 + 1, 0, none⟩) 1 1, .bool q.desc, .int .i64 q.lim, .string q.page] := by
    have := CB.new (w2.alloc (.cells #[.int .i64 q.src, .int .i64 q.til, .slice am q.mat.length cm, .int .i64 q.fil.op, .string q.fil.name, .string q.fil.text, .slice ak q.fil.kids.length ck, .bool q.desc, .int .i64 q.lim, .string q.page] 34)) 34 #[.int .i64 q.src, .int .i64 q.til, .slice am q.mat.length cm, .int .i64 6, .string ⟨#[]⟩, .string ⟨#[]⟩, .slice (some ⟨w2.heap.size + 1 + 1 + 1, 0, none⟩) 1 1, .bool q.desc, .int .i64 q.lim, .string q.page]
    rw [World.size_alloc] at this
    exact (Below.heap_alloc _ _ _ (by simp <;> omega)).trans ((Below.heap_alloc _ _ _ (by simp)).trans this)
  have hcf : CB ((((w2.alloc (.cells #[.int .i64 q.src, .int .i64 q.til, .slice am q.mat.length cm, .int .i64 q.fil.op, .string q.fil.name, .string q.fil.text, .slice ak q.fil.kids.length ck, .bool q.desc, .int .i64 q.lim, .string q.page] 34)).alloc (.cells #[.int .i64 q.src, .int .i64 q.til, .slice am q.mat.length cm, .int .i64 6, .string ⟨#[]⟩, .string ⟨#[]⟩, .slice (some ⟨w2.heap.size + 1 + 1 + 1, 0, none⟩) 1 1, .bool q.desc, .int .i64 q.lim, .string q.page] 34)).alloc (.cells #[.int .i64 q.fil.op, .string q.fil.name, .string q.fil.text, .slice ak q.fil.kids.length ck] 30)).alloc (.cells #[.int .i64 6, .string ⟨#[]⟩, .string ⟨#[]⟩, .slice (some ⟨w2.heap.size + 1 + 1, 0, none⟩) 1 1] 30)) (w2.heap.size + 1 + 1) 30 #[.int .i64 q.fil.op, .string q.fil.name, .string q.fil.text, .slice ak q.fil.kids.length ck] := by
    have := CB.new ((w2.alloc (.cells #[.int .i64 q.src, .int .i64 q.til, .slice am q.mat.length cm, .int .i64 q.fil.op, .string q.fil.name, .string q.fil.text, .slice ak q.fil.kids.length ck, .bool q.desc, .int .i64 q.lim, .string q.page] 34)).alloc (.cells #[.int .i64 q.src, .int .i64 q.til, .slice am q.mat.length cm, .int .i64 6, .string ⟨#[]⟩, .string ⟨#[]⟩, .slice (some ⟨w2.heap.size + 1 + 1 + 1, 0, none⟩) 1 1, .bool q.desc, .int .i64 q.lim, .string q.page] 34)) 30 #[.int .i64 q.fil.op, .string q.fil.name, .string q.fil.text, .slice ak q.fil.kids.length ck]
    rw [World.size_alloc, World.size_alloc] at this
    exact (Below.heap_alloc _ _ _ (by simp)).trans this
  have hcd : CB ((((w2.alloc (.cells #[.int .i64 q.src, .int .i64 q.til, .slice am q.mat.length cm, .int .i64 q.fil.op, .string q.fil.name, .string q.fil.text, .slice ak q.fil.kids.length ck, .bool q.desc, .int .i64 q.lim, .string q.page] 34)).alloc (.cells #[.int .i64 q.src, .int .i64 q.til, .slice am q.mat.length cm, .int .i64 6, .string ⟨#[]⟩, .string ⟨#[]⟩, .slice (some ⟨w2.heap.size + 1 + 1 + 1, 0, none⟩) 1 1, .bool q.desc, .int .i64 q.lim, .string q.page] 34)).alloc (.cells #[.int .i64 q.fil.op, .string q.fil.name, .string q.fil.text, .slice ak q.fil.kids.length ck] 30)).alloc (.cells #[.int .i64 6, .string ⟨#[]⟩, .string ⟨#[]⟩, .slice (some ⟨w2.heap.size + 1 + 1, 0, none⟩) 1 1] 30)) (w2.heap.size + 1 + 1 + 1) 30 #[.int .i64 6, .string ⟨#[]⟩, .string ⟨#[]⟩, .slice (some ⟨w2.heap.size + 1 + 1, 0, none⟩) 1 1] := by
    have := CB.new (((w2.alloc (.cells #[.int .i64 q.src, .int .i64 q.til, .slice am q.mat.length cm, .int .i64 q.fil.op, .string q.fil.name, .string q.fil.text, .slice ak q.fil.kids.length ck, .bool q.desc, .int .i64 q.lim, .string q.page] 34)).alloc (.cells #[.int .i64 q.src, .int .i64 q.til, .slice am q.mat.length cm, .int .i64 6, .string ⟨#[]⟩, .string ⟨#[]⟩, .slice (some ⟨w2.heap.size + 1 + 1 + 1, 0, none⟩) 1 1, .bool q.desc, .int .i64 q.lim, .string q.page] 34)).alloc (.cells #[.int .i64 q.fil.op, .string q.fil.name, .string q.fil.text, .slice ak q.fil.kids.length ck] 30)) 30 #[.int .i64 6, .string ⟨#[]⟩, .string ⟨#[]⟩, .slice (some ⟨w2.heap.size + 1 + 1, 0, none⟩) 1 1]
    rw [hsz2] at this
    exact this
  have hh5 : ((((w2.alloc (.cells #[.int .i64 q.src, .int .i64 q.til, .slice am q.mat.length cm, .int .i64 q.fil.op, .string q.fil.name, .string q.fil.text, .slice ak q.fil.kids.length ck, .bool q.desc, .int .i64 q.lim, .string q.page] 34)).alloc (.cells #[.int .i64 q.src, .int .i64 q.til, .slice am q.mat.length cm, .int .i64 6, .string ⟨#[]⟩, .string ⟨#[]⟩, .slice (some ⟨w2.heap.size + 1 + 1 + 1, 0, none⟩) 1 1, .bool q.desc, .int .i64 q.lim, .string q.page] 34)).alloc (.cells #[.int .i64 q.fil.op, .string q.fil.name, .string q.fil.text, .slice ak q.fil.kids.length ck] 30)).alloc (.cells #[.int .i64 6, .string ⟨#[]⟩, .string ⟨#[]⟩, .slice (some ⟨w2.heap.size + 1 + 1, 0, none⟩) 1 1] 30)).heap.size = w2.heap.size + 4 := by simp
  go_upto_region 10 with fail
  revert hl5 hca hcc hcf hcd hh5
  generalize ((((w2.alloc (.cells #[.int .i64 q.src, .int .i64 q.til, .slice am q.mat.length cm, .int .i64 q.fil.op, .string q.fil.name, .string q.fil.text, .slice ak q.fil.kids.length ck, .bool q.desc, .int .i64 q.lim, .string q.page] 34)).alloc (.cells #[.int .i64 q.src, .int .i64 q.til, .slice am q.mat.length cm, .int .i64 6, .string ⟨#[]⟩, .string ⟨#[]⟩, .slice (some ⟨w2.heap.size + 1 + 1 + 1, 0, none⟩) 1 1, .bool q.desc, .int .i64 q.lim, .string q.page] 34)).alloc (.cells #[.int .i64 q.fil.op, .string q.fil.name, .string q.fil.text, .slice ak q.fil.kids.length ck] 30)).alloc (.cells #[.int .i64 6, .string ⟨#[]⟩, .string ⟨#[]⟩, .slice (some ⟨w2.heap.size + 1 + 1, 0, none⟩) 1 1] 30)) = w5
  intro hl5 hca hcc hcf hcd hh5
  obtain ⟨A, hA⟩ : ∃ A, A = w2.heap.size := ⟨_, rfl⟩
  simp only [← hA] at hca hcc hcf hcd hh5 ⊢
  obtain ⟨C, hC⟩ : ∃ C, C = A + 1 := ⟨_, rfl⟩
  obtain ⟨D, hD⟩ : ∃ D, D = A + 1 + 1 + 1 := ⟨_, rfl⟩
  obtain ⟨D1, hD1⟩ : ∃ D1, D1 = A + 1 + 1 := ⟨_, rfl⟩
  simp only [← hD] at hca hcc hcf hcd hh5 ⊢
  simp only [← hD1] at hca hcc hcf hcd hh5 ⊢
  simp only [← hC] at hca hcc hcf hcd hh5 ⊢
  have hb5 : ∀ W, Keep (fun b => b = C) w5 W → Below w2.heap.size w2 W := fun W h => Keep.below (Keep.trans hl5.keep h) (fun k hk => by rw [hk]; omega) (Nat.le_refl _)
  have HMAT := Lib.hid (fun W (h : Keep (fun b => b = C) w5 W) => MsAt.below HM2.out (hb5 W h))
  have HNN := Lib.hid (fun W (h : Keep (fun b => b = C) w5 W) => notnot_at (hcf.keep h (by omega)) (hcd.keep h (by omega)) (KsAt.below (hb5 W h) _ _ HK2.out))
  have HFIL := Lib.hid (fun W (h : Keep (fun b => b = C) w5 W) => KsAt.below (hb5 W h) _ _ HK2.out)
  have HCA := Lib.hid (fun W (h : Keep (fun b => b = C) w5 W) => hca.keep h (by omega))
  have HCC0 := Lib.hid hcc
  have HL5 := Lib.hid (Keep.trans HL2.out hl5)
  have hH0 : C < w5.heap.size := by omega
  have HWC : Hid (w.heap.size ≤ C) := Lib.hid (by have := HL2.out.size; omega)
  clear hb5 hl5 hca hcc hcf hcd hh5 hsz2 HL2 HM2 HK2 hA hC hD hD1
  obtain ⟨M3, hM3⟩ : ∃ M3, M3 = q.mat.drop n ++ q.mat ++ q.mat.take n := ⟨_, rfl⟩
  have hml : (flatM (q.mat.drop n ++ q.mat ++ q.mat.take n)) = flatM M3 := by rw [hM3]
  have hm3l : M3.length = q.mat.length - n + q.mat.length + n := by rw [hM3, List.length_append, List.length_append, List.length_drop, List.length_take, Nat.min_eq_left hn]
  have HM3 := Lib.hid hM3
  have HML := Lib.hid hml
  have HM3L := Lib.hid hm3l
  clear hM3 hml hm3l
  obtain ⟨i43, z43, E43⟩ := elem43
  have hfew := HFQ.out
  refine (wpIn_wide (n := 9)).1 ?_
  refine wpIn_region_flow (fun _ => trivial) (by kernel_rfl) (fun _ _ W => Keep (fun b => b = C) w5 W ∧ ∃ v', CB W C 34 #[.int .i64 q.src, .int .i64 q.til, v', .int .i64 6, .string ⟨#[]⟩, .string ⟨#[]⟩, .slice (some ⟨D, 0, none⟩) 1 1, .bool q.desc, .int .i64 q.lim, .string q.page]) (fun i _ u1 u2 => TR w5.heap.size i u1 u2) (GV [none, some (.pointer (some ⟨A, 2, none⟩)), some (.slice am q.mat.length cm), some (.int .i64 n), none, none, some (.pointer (some ⟨A, 2, none⟩)), some (.slice am q.mat.length cm), none, some (.pointer (some ⟨A, 2, none⟩)), some (.slice am q.mat.length cm), some (.int .i64 n), none, none, some (.pointer (some ⟨C, 2, none⟩)), none] [0, 4, 5, 8, 12, 13, 15] (TSp w5.heap.size C 34 am n q.mat M3 (fun v' => #[.int .i64 q.src, .int .i64 q.til, v', .int .i64 6, .string ⟨#[]⟩, .string ⟨#[]⟩, .slice (some ⟨D, 0, none⟩) 1 1, .bool q.desc, .int .i64 q.lim, .string q.page]))) (fun j => j == 15) (by kernel_rfl) (by kernel_rfl) ?hst ⟨(Keep.refl _ w5).drew, ⟨_, HCC0.out⟩⟩ ?step ?fin
  case hst =>
    intro i j ys v u1 u2 hij hanc hned hV hR
    refine GV.keep' hij hV fun hS h => ?_
    by_cases hi : i ∈ [0, 5, 8, 13, 15]
    · simp only [List.mem_cons, List.not_mem_nil, or_false] at hi hS
      rcases hS with rfl | rfl | rfl | rfl | rfl | rfl | rfl
      · rcases hi with rfl | rfl | rfl | rfl | rfl
        · exact absurd rfl hij
        · cases (Eq.symm hned).trans (by kernel_rfl : _ = false)
        · cases (Eq.symm hned).trans (by kernel_rfl : _ = false)
        · cases (Eq.symm hned).trans (by kernel_rfl : _ = false)
        · cases (Eq.symm hned).trans (by kernel_rfl : _ = false)
      · exact h
      · rcases hi with rfl | rfl | rfl | rfl | rfl
        · cases hanc.symm.trans (by kernel_rfl : _ = true)
        · exact absurd rfl hij
        · cases (Eq.symm hned).trans (by kernel_rfl : _ = false)
        · cases (Eq.symm hned).trans (by kernel_rfl : _ = false)
        · cases (Eq.symm hned).trans (by kernel_rfl : _ = false)
      · rcases hi with rfl | rfl | rfl | rfl | rfl
        · cases hanc.symm.trans (by kernel_rfl : _ = true)
        · cases hanc.symm.trans (by kernel_rfl : _ = true)
        · exact absurd rfl hij
        · cases (Eq.symm hned).trans (by kernel_rfl : _ = false)
        · cases (Eq.symm hned).trans (by kernel_rfl : _ = false)
      · exact h
      · rcases hi with rfl | rfl | rfl | rfl | rfl
        · cases hanc.symm.trans (by kernel_rfl : _ = true)
        · cases hanc.symm.trans (by kernel_rfl : _ = true)
        · cases hanc.symm.trans (by kernel_rfl : _ = true)
        · exact absurd rfl hij
        · cases (Eq.symm hned).trans (by kernel_rfl : _ = false)
      · rcases hi with rfl | rfl | rfl | rfl | rfl
        · cases hanc.symm.trans (by kernel_rfl : _ = true)
        · cases hanc.symm.trans (by kernel_rfl : _ = true)
        · cases hanc.symm.trans (by kernel_rfl : _ = true)
        · cases hanc.symm.trans (by kernel_rfl : _ = true)
        · exact absurd rfl hij
    · exact TSp.lay h (TR.lay hR hi)
  case step =>
    refine ⟨?_, ?_, ?_, ?_, ?_, ?_, ?_, ?_, ?_, ?_, ?_, ?_, ?_, ?_, ?_, ?_, trivial⟩
    · intro listed ys X W hsz hsd hi2 hall hX hI hd K hK
      have HI := Lib.hid hI
      refine step_run (.inl rfl) ?_
      clear hX hd hI
      go_simp
      refine hK _ (W.alloc (.cells #[] 54)) ⟨HI.out.1.alloc _, ?_⟩ ?_ (GV.ofsp (by decide) ?_)
      · obtain ⟨v', h⟩ := HI.out.2
        exact ⟨v', (Below.heap_alloc _ _ _ h.lt).trans h⟩
      · exact TR.turn (by decide) ((Keep.refl _ _).alloc _)
      · exact (rk_new 3 W 0 [] 54 rfl (by omega)).mono (G' := fun b => w5.heap.size ≤ b) fun b hb _ => by have h1 := HI.out.1.size; have h2 : b = W.heap.size := hb; omega
    · intro listed ys X W hsz hsd hi2 hall hX hI hd K hK
      have e5 : X.tmps.getD 5 undef = .pointer (some ⟨A, 0, none⟩) := hX 5 (Nat.le_of_ble_eq_true rfl)
      have HI := Lib.hid hI
      refine step_run (.inl rfl) ?_
      clear hX hd hI
      go_simp
      exact hK _ _ HI.out (TR.same (by decide)) (GV.of (by decide) (fun u h => by cases h; rfl))
    · intro listed ys X W hsz hsd hi2 hall hX hI hd K hK
      have e32 : X.tmps.getD 32 undef = .pointer (some ⟨A, 2, none⟩) := (hX 32 (Nat.le_of_ble_eq_true rfl)).trans (GV.val (hd ⟨1, .data⟩ (by simp) rfl) (by decide) rfl)
      have c0 := CB.cell (HCA.out W hI.1) 0
      have c1 := CB.cell (HCA.out W hI.1) 1
      have c2 := CB.cell (HCA.out W hI.1) 2
      have c3 := CB.cell (HCA.out W hI.1) 3
      have c4 := CB.cell (HCA.out W hI.1) 4
      have c5 := CB.cell (HCA.out W hI.1) 5
      have c6 := CB.cell (HCA.out W hI.1) 6
      have c7 := CB.cell (HCA.out W hI.1) 7
      have c8 := CB.cell (HCA.out W hI.1) 8
      have c9 := CB.cell (HCA.out W hI.1) 9
      simp only [List.getElem?_toArray, List.getElem?_cons_succ, List.getElem?_cons_zero] at c0 c1 c2 c3 c4 c5 c6 c7 c8 c9
      have HI := Lib.hid hI
      refine step_run (.inl rfl) ?_
      clear hX hd hI
      go_simp
      exact hK _ _ HI.out (TR.same (by decide)) (GV.of (by decide) (fun u h => by cases h; rfl))
    · intro listed ys X W hsz hsd hi2 hall hX hI hd K hK
      have e1 : X.tmps.getD 1 undef = .int .i64 n := hX 1 (Nat.le_of_ble_eq_true rfl)
      have HI := Lib.hid hI
      refine step_run (.inl rfl) ?_
      clear hX hd hI
      go_simp
      exact hK _ _ HI.out (TR.same (by decide)) (GV.of (by decide) (fun u h => by cases h; rfl))
    · intro listed ys X W hsz hsd hi2 hall hX hI hd K hK
      have e33 : X.tmps.getD 33 undef = .slice am q.mat.length cm := (hX 33 (Nat.le_of_ble_eq_true rfl)).trans (GV.val (hd ⟨2, .data⟩ (by simp) rfl) (by decide) rfl)
      have e34 : X.tmps.getD 34 undef = .int .i64 n := (hX 34 (Nat.le_of_ble_eq_true rfl)).trans (GV.val (hd ⟨3, .data⟩ (by simp) rfl) (by decide) rfl)
      have HI := Lib.hid hI
      rcases HSH.out with ⟨hs1, hs2⟩ | ⟨g, c, hs1, hs2⟩
      · simp only [Value.slice.injEq] at hs1
        obtain ⟨ha1, hb1, hc1⟩ := hs1
        have hin : (n : Int) ≤ (q.mat.length : Int) := by omega
        have hn0 : n = 0 := by omega
        refine step_run (.inl rfl) ?_
        clear hX hd hI
        subst hn0
        go_simp
        exact hK _ _ HI.out (TR.same (by decide)) (GV.ofsp (by decide) ⟨am, 0, by simp [ha1, hs2], .inl hs2⟩)
      · simp only [Value.slice.injEq] at hs1
        obtain ⟨ha1, hb1, hc1⟩ := hs1
        have hin : (n : Int) ≤ (q.mat.length : Int) := by omega
        have hic : n ≤ c := by omega
        refine step_run (.inl rfl) ?_
        clear hX hd hI
        subst hc1
        go_simp
        refine hK _ _ HI.out (TR.same (by decide)) (GV.ofsp (by decide) ⟨_, _, rfl, ?_⟩)
        by_cases hcn : cm = n
        · exact .inl (by omega)
        · refine .inr fun b off hab => ?_
          rw [if_neg hcn]
          have h := ha1.symm.trans hab
          simp only [Option.some.injEq, Addr.mk.injEq, and_true] at h
          obtain ⟨rfl, rfl⟩ := h
          simp
    · intro listed ys X W hsz hsd hi2 hall hX hI hd K hK
      have e31 : X.tmps.getD 31 undef = ys 0 := hX 31 (Nat.le_of_ble_eq_true rfl)
      have HY0 := GV.sp (hd ⟨0, .data⟩ (by simp) rfl) (by decide)
      have e35 : X.tmps.getD 35 undef = ys 4 := hX 35 (Nat.le_of_ble_eq_true rfl)
      have HY4 := GV.sp (hd ⟨4, .data⟩ (by simp) rfl) (by decide)
      have hsz5 := hI.1.size
      have hrk : Rk 3 (fun b => w5.heap.size ≤ b) W (ys 0) 0 (flatM []) := HY0
      have hmat := HMAT.out W hI.1
      obtain ⟨a1, c1, hy4, hcond⟩ := HY4
      rw [hy4] at e35
      have hsrc := (MsAt.dropN hmat hn hcond c1).src
      rw [List.length_drop] at hsrc
      obtain ⟨v', w', hrun, hr', hk'⟩ := run_append_rk E43 hrk (fun b hb => by omega) 32 32 _ (q.mat.length - n) _ hsrc (by omega) (by omega)
      have hat : ∀ b, At (ys 0) b → w5.heap.size ≤ b := fun b hb => (hrk.at hb).1
      refine step_run (.inl rfl) ?_
      refine operIn_append _ _ 32 rfl e31 e35 hrun ?_
      refine hK _ _ ⟨Keep.after (fun b hb => .inr (hat b hb)) hI.1 hk', ?_⟩ (TR.turn (by decide) (hk'.into fun b _ hb => hat b hb)) (GV.ofsp (by decide) ?_)
      · obtain ⟨v0, h⟩ := hI.2
        exact ⟨v0, h.keep hk' (fun hb => by have := hat C hb; omega)⟩
      · have h := hr'.mono (G' := fun b => w5.heap.size ≤ b) (fun b hb _ => hb.1)
        rw [Nat.zero_add] at h
        exact h
    · intro listed ys X W hsz hsd hi2 hall hX hI hd K hK
      have e5 : X.tmps.getD 5 undef = .pointer (some ⟨A, 0, none⟩) := hX 5 (Nat.le_of_ble_eq_true rfl)
      have HI := Lib.hid hI
      refine step_run (.inl rfl) ?_
      clear hX hd hI
      go_simp
      exact hK _ _ HI.out (TR.same (by decide)) (GV.of (by decide) (fun u h => by cases h; rfl))
    · intro listed ys X W hsz hsd hi2 hall hX hI hd K hK
      have e37 : X.tmps.getD 37 undef = .pointer (some ⟨A, 2, none⟩) := (hX 37 (Nat.le_of_ble_eq_true rfl)).trans (GV.val (hd ⟨6, .data⟩ (by simp) rfl) (by decide) rfl)
      have c0 := CB.cell (HCA.out W hI.1) 0
      have c1 := CB.cell (HCA.out W hI.1) 1
      have c2 := CB.cell (HCA.out W hI.1) 2
      have c3 := CB.cell (HCA.out W hI.1) 3
      have c4 := CB.cell (HCA.out W hI.1) 4
      have c5 := CB.cell (HCA.out W hI.1) 5
      have c6 := CB.cell (HCA.out W hI.1) 6
      have c7 := CB.cell (HCA.out W hI.1) 7
      have c8 := CB.cell (HCA.out W hI.1) 8
      have c9 := CB.cell (HCA.out W hI.1) 9
      simp only [List.getElem?_toArray, List.getElem?_cons_succ, List.getElem?_cons_zero] at c0 c1 c2 c3 c4 c5 c6 c7 c8 c9
      have HI := Lib.hid hI
      refine step_run (.inl rfl) ?_
      clear hX hd hI
      go_simp
      exact hK _ _ HI.out (TR.same (by decide)) (GV.of (by decide) (fun u h => by cases h; rfl))
    · intro listed ys X W hsz hsd hi2 hall hX hI hd K hK
      have e36 : X.tmps.getD 36 undef = ys 5 := hX 36 (Nat.le_of_ble_eq_true rfl)
      have HY5 := GV.sp (hd ⟨5, .data⟩ (by simp) rfl) (by decide)
      have e38 : X.tmps.getD 38 undef = .slice am q.mat.length cm := (hX 38 (Nat.le_of_ble_eq_true rfl)).trans (GV.val (hd ⟨7, .data⟩ (by simp) rfl) (by decide) rfl)
      have hsz5 := hI.1.size
      have hrk : Rk 3 (fun b => w5.heap.size ≤ b) W (ys 5) (q.mat.length - n) (flatM (q.mat.drop n)) := HY5
      have hmat := HMAT.out W hI.1
      have hsrc := hmat.src
      obtain ⟨v', w', hrun, hr', hk'⟩ := run_append_rk E43 hrk (fun b hb => by omega) 32 32 _ q.mat.length _ hsrc (by omega) (by omega)
      have hat : ∀ b, At (ys 5) b → w5.heap.size ≤ b := fun b hb => (hrk.at hb).1
      refine step_run (.inl rfl) ?_
      refine operIn_append _ _ 32 rfl e36 e38 hrun ?_
      refine hK _ _ ⟨Keep.after (fun b hb => .inr (hat b hb)) hI.1 hk', ?_⟩ (TR.turn (by decide) (hk'.into fun b _ hb => hat b hb)) (GV.ofsp (by decide) ?_)
      · obtain ⟨v0, h⟩ := hI.2
        exact ⟨v0, h.keep hk' (fun hb => by have := hat C hb; omega)⟩
      · have h := hr'.mono (G' := fun b => w5.heap.size ≤ b) (fun b hb _ => hb.1)
        rw [← flatM_append] at h
        exact h
    · intro listed ys X W hsz hsd hi2 hall hX hI hd K hK
      have e5 : X.tmps.getD 5 undef = .pointer (some ⟨A, 0, none⟩) := hX 5 (Nat.le_of_ble_eq_true rfl)
      have HI := Lib.hid hI
      refine step_run (.inl rfl) ?_
      clear hX hd hI
      go_simp
      exact hK _ _ HI.out (TR.same (by decide)) (GV.of (by decide) (fun u h => by cases h; rfl))
    · intro listed ys X W hsz hsd hi2 hall hX hI hd K hK
      have e40 : X.tmps.getD 40 undef = .pointer (some ⟨A, 2, none⟩) := (hX 40 (Nat.le_of_ble_eq_true rfl)).trans (GV.val (hd ⟨9, .data⟩ (by simp) rfl) (by decide) rfl)
      have c0 := CB.cell (HCA.out W hI.1) 0
      have c1 := CB.cell (HCA.out W hI.1) 1
      have c2 := CB.cell (HCA.out W hI.1) 2
      have c3 := CB.cell (HCA.out W hI.1) 3
      have c4 := CB.cell (HCA.out W hI.1) 4
      have c5 := CB.cell (HCA.out W hI.1) 5
      have c6 := CB.cell (HCA.out W hI.1) 6
      have c7 := CB.cell (HCA.out W hI.1) 7
      have c8 := CB.cell (HCA.out W hI.1) 8
      have c9 := CB.cell (HCA.out W hI.1) 9
      simp only [List.getElem?_toArray, List.getElem?_cons_succ, List.getElem?_cons_zero] at c0 c1 c2 c3 c4 c5 c6 c7 c8 c9
      have HI := Lib.hid hI
      refine step_run (.inl rfl) ?_
      clear hX hd hI
      go_simp
      exact hK _ _ HI.out (TR.same (by decide)) (GV.of (by decide) (fun u h => by cases h; rfl))
    · intro listed ys X W hsz hsd hi2 hall hX hI hd K hK
      have e1 : X.tmps.getD 1 undef = .int .i64 n := hX 1 (Nat.le_of_ble_eq_true rfl)
      have HI := Lib.hid hI
      refine step_run (.inl rfl) ?_
      clear hX hd hI
      go_simp
      exact hK _ _ HI.out (TR.same (by decide)) (GV.of (by decide) (fun u h => by cases h; rfl))
    · intro listed ys X W hsz hsd hi2 hall hX hI hd K hK
      have e41 : X.tmps.getD 41 undef = .slice am q.mat.length cm := (hX 41 (Nat.le_of_ble_eq_true rfl)).trans (GV.val (hd ⟨10, .data⟩ (by simp) rfl) (by decide) rfl)
      have e42 : X.tmps.getD 42 undef = .int .i64 n := (hX 42 (Nat.le_of_ble_eq_true rfl)).trans (GV.val (hd ⟨11, .data⟩ (by simp) rfl) (by decide) rfl)
      have HI := Lib.hid hI
      rcases HSH.out with ⟨hs1, hs2⟩ | ⟨g, c, hs1, hs2⟩
      · simp only [Value.slice.injEq] at hs1
        obtain ⟨ha1, hb1, hc1⟩ := hs1
        have hin : (n : Int) ≤ (q.mat.length : Int) := by omega
        have hn0 : n = 0 := by omega
        refine step_run (.inl rfl) ?_
        clear hX hd hI
        subst hn0
        go_simp
        exact hK _ _ HI.out (TR.same (by decide)) (GV.ofsp (by decide) ⟨0, by rw [ha1]⟩)
      · simp only [Value.slice.injEq] at hs1
        obtain ⟨ha1, hb1, hc1⟩ := hs1
        have hin : (n : Int) ≤ (q.mat.length : Int) := by omega
        have hic : n ≤ c := by omega
        refine step_run (.inl rfl) ?_
        clear hX hd hI
        subst hc1
        go_simp
        exact hK _ _ HI.out (TR.same (by decide)) (GV.ofsp (by decide) ⟨cm, by rw [ha1]⟩)
    · intro listed ys X W hsz hsd hi2 hall hX hI hd K hK
      have e39 : X.tmps.getD 39 undef = ys 8 := hX 39 (Nat.le_of_ble_eq_true rfl)
      have HY8 := GV.sp (hd ⟨8, .data⟩ (by simp) rfl) (by decide)
      have e43 : X.tmps.getD 43 undef = ys 12 := hX 43 (Nat.le_of_ble_eq_true rfl)
      have HY12 := GV.sp (hd ⟨12, .data⟩ (by simp) rfl) (by decide)
      have hsz5 := hI.1.size
      have hrk : Rk 3 (fun b => w5.heap.size ≤ b) W (ys 8) (q.mat.length - n + q.mat.length) (flatM (q.mat.drop n ++ q.mat)) := HY8
      have hmat := HMAT.out W hI.1
      obtain ⟨c2, hy12⟩ := HY12
      rw [hy12] at e43
      have hsrc := (MsAt.takeN hmat hn c2).src
      rw [List.length_take, Nat.min_eq_left hn] at hsrc
      obtain ⟨v', w', hrun, hr', hk'⟩ := run_append_rk E43 hrk (fun b hb => by omega) 32 32 _ n _ hsrc (by omega) (by omega)
      have hat : ∀ b, At (ys 8) b → w5.heap.size ≤ b := fun b hb => (hrk.at hb).1
      refine step_run (.inl rfl) ?_
      refine operIn_append _ _ 32 rfl e39 e43 hrun ?_
      refine hK _ _ ⟨Keep.after (fun b hb => .inr (hat b hb)) hI.1 hk', ?_⟩ (TR.turn (by decide) (hk'.into fun b _ hb => hat b hb)) (GV.ofsp (by decide) ?_)
      · obtain ⟨v0, h⟩ := hI.2
        exact ⟨v0, h.keep hk' (fun hb => by have := hat C hb; omega)⟩
      · have h := hr'.mono (G' := fun b => w5.heap.size ≤ b) (fun b hb _ => hb.1)
        rw [← flatM_append, HML.out, ← HM3L.out] at h
        exact h
    · intro listed ys X W hsz hsd hi2 hall hX hI hd K hK
      have e6 : X.tmps.getD 6 undef = .pointer (some ⟨C, 0, none⟩) := hX 6 (Nat.le_of_ble_eq_true rfl)
      have HI := Lib.hid hI
      refine step_run (.inl rfl) ?_
      clear hX hd hI
      go_simp
      exact hK _ _ HI.out (TR.same (by decide)) (GV.of (by decide) (fun u h => by cases h; rfl))
    · intro listed ys X W hsz hsd hi2 hall hX hI hd K hK
      have e45 : X.tmps.getD 45 undef = .pointer (some ⟨C, 2, none⟩) := (hX 45 (Nat.le_of_ble_eq_true rfl)).trans (GV.val (hd ⟨14, .data⟩ (by simp) rfl) (by decide) rfl)
      have e44 : X.tmps.getD 44 undef = ys 13 := hX 44 (Nat.le_of_ble_eq_true rfl)
      have HY13 := GV.sp (hd ⟨13, .data⟩ (by simp) rfl) (by decide)
      have hrk : Rk 3 (fun b => w5.heap.size ≤ b) W (ys 13) M3.length (flatM M3) := HY13
      obtain ⟨a13, c13, hy13⟩ := hrk.shape
      rw [hy13] at e44 hrk
      obtain ⟨v0, hcb⟩ := hI.2
      have c2 := hcb.cell 2
      have cf2 := hcb.frozen 2
      simp only [List.getElem?_toArray, List.getElem?_cons_succ, List.getElem?_cons_zero] at c2
      have HI := Lib.hid hI
      have HRK := Lib.hid hrk
      have HCB := Lib.hid hcb
      refine step_run (.inl rfl) ?_
      clear hX hd hI hrk hcb
      go_simp
      have hcb2 := CB.set HCB.out 2 (.slice a13 M3.length c13)
      simp only [List.setIfInBounds_toArray, List.set_cons_zero, List.set_cons_succ] at hcb2
      refine hK (.bool true) _ ⟨HI.out.1.setCell (p := ⟨C, 2, none⟩) (.inr rfl) _, ⟨_, hcb2⟩⟩ trivial (GV.ofsp (by decide) ⟨_, hcb2, ?_⟩)
      exact HRK.out.carry (Nat.le_of_eq (by simp [World.setCell])) fun j hj _ _ => Below.heap_setCell _ ⟨C, 2, none⟩ _ j (by have h : w5.heap.size ≤ j := hj; show j ≠ C; omega)
  case fin =>
    intro listed ys w6 hall hI hV
    obtain ⟨v6, hc6, hr6⟩ : TSp w5.heap.size C 34 am n q.mat M3 (fun v' => #[.int .i64 q.src, .int .i64 q.til, v', .int .i64 6, .string ⟨#[]⟩, .string ⟨#[]⟩, .slice (some ⟨D, 0, none⟩) 1 1, .bool q.desc, .int .i64 q.lim, .string q.page]) 15 (ys 15) w6 := GV.sp (hV 15 (by decide) rfl) (by decide)
    have HK6 := Lib.hid hI.1
    have HC6 := Lib.hid hc6
    have HR6 := Lib.hid hr6
    clear hall hI hV hc6 hr6
    obtain ⟨am6, cm6, rfl⟩ := HR6.out.shape
    simp only [putsFrom]
    simp only [Act.put, List.setIfInBounds_toArray, List.set_cons_succ, List.set_cons_zero]
    have c9 := CB.cell HC6.out 9
    have cf9 := CB.frozen HC6.out 9
    simp only [List.getElem?_toArray, List.getElem?_cons_succ, List.getElem?_cons_zero] at c9
    go_upto_region 12 with fail
    clear c9 cf9
    obtain ⟨w7, hw7⟩ : ∃ w7, w7 = w6.setCell ⟨C, 9, none⟩ (.string ⟨#[112, 97, 103, 101]⟩) := ⟨_, rfl⟩
    have hc7 := CB.set HC6.out 9 (.string ⟨#[112, 97, 103, 101]⟩)
    simp only [List.setIfInBounds_toArray, List.set_cons_zero, List.set_cons_succ] at hc7
    rw [← hw7] at hc7 ⊢
    have hk7 : Keep (fun b => b = C) w5 w7 := by rw [hw7]; exact HK6.out.setCell (p := ⟨C, 9, none⟩) (.inr rfl) _
    have hr7 : Rk 3 (fun b => w5.heap.size ≤ b) w7 (.slice am6 M3.length cm6) M3.length (flatM M3) := by
      rw [hw7]
      exact HR6.out.carry (Nat.le_of_eq (by simp [World.setCell])) fun j hj _ _ => Below.heap_setCell _ ⟨C, 9, none⟩ _ j (by have h : w5.heap.size ≤ j := hj; show j ≠ C; omega)
    have hm7 : MsAt w7 (.slice am6 M3.length cm6) M3 := MsAt.of_rk hr7 (by have := HM3L.out; omega)
    have hq7 : QAt w7 (q.val (.slice am q.mat.length cm) (.slice ak q.fil.kids.length ck)) q := ⟨_, _, rfl, HMAT.out w7 hk7, HFIL.out w7 hk7⟩
    have hp7 : QAt w7 (Qy.val ⟨q.src, q.til, M3, notnot q.fil, q.desc, q.lim, ⟨#[112, 97, 103, 101]⟩⟩ (.slice am6 M3.length cm6) (.slice (some ⟨D, 0, none⟩) 1 1)) ⟨q.src, q.til, M3, notnot q.fil, q.desc, q.lim, ⟨#[112, 97, 103, 101]⟩⟩ := ⟨_, _, rfl, hm7, HNN.out w7 hk7⟩
    obtain ⟨p, hp⟩ : ∃ p : Qy, p = ⟨q.src, q.til, M3, notnot q.fil, q.desc, q.lim, ⟨#[112, 97, 103, 101]⟩⟩ := ⟨_, rfl⟩
    have hnorm : normQ p = normQ q := by
      rw [hp]
      unfold normQ
      dsimp only
      rw [show Nr.norm (notnot q.fil) = Nr.norm q.fil from Nr.norm_notnot q.fil, show normM M3 = normM q.mat from Nr.nub_same ordM fun x => by
        rw [HM3.out, List.mem_append, List.mem_append]
        constructor
        · rintro ((h | h) | h)
          · exact List.mem_of_mem_drop h
          · exact h
          · exact List.mem_of_mem_take h
        · exact fun h => .inl (.inr h)]
    have hgp : Nr.Gd p.fil := by rw [hp]; exact .not _ (.not _ HGQ.out)
    have hcp : p.fil.count ≤ 70 := by
      rw [hp]
      show (notnot q.fil).count ≤ 70
      unfold notnot
      simp only [Ft.count, Ft.counts]
      have := HCQ.out
      omega
    have hmp : p.mat.length ≤ 100000 := by rw [hp]; show M3.length ≤ 100000; have := HM3L.out; omega
    have hb7 : Below w.heap.size w w7 := Keep.below (Keep.trans (HL5.out.into (H := fun b => b = C) (fun _ _ h => h.elim)) hk7) (fun k hk => by rw [hk]; exact HWC.out) (Nat.le_refl _)
    have HB7 := Lib.hid hb7
    have HC7 := Lib.hid hc7
    have HA7 := Lib.hid (HCA.out w7 hk7)
    have hT7 := HT.out.next hb7
    rw [← hp] at hp7
    obtain ⟨vp, hvp⟩ : ∃ vp, vp = Qy.val p (.slice am6 M3.length cm6) (.slice (some ⟨D, 0, none⟩) 1 1) := ⟨_, rfl⟩
    obtain ⟨vq, hvq⟩ : ∃ vq, vq = q.val (.slice am q.mat.length cm) (.slice ak q.fil.kids.length ck) := ⟨_, rfl⟩
    rw [← hvp] at hp7
    rw [← hvq] at hq7
    have hvp2 : vp = .agg #[.int .i64 q.src, .int .i64 q.til, .slice am6 M3.length cm6, .int .i64 6, .string ⟨#[]⟩, .string ⟨#[]⟩, .slice (some ⟨D, 0, none⟩) 1 1, .bool q.desc, .int .i64 q.lim, .string ⟨#[112, 97, 103, 101]⟩] := by rw [hvp, hp]; rfl
    obtain ⟨TQ, hTQ⟩ : ∃ TQ, TQ = keyT q := ⟨_, rfl⟩
    have hkt : keyT p = TQ := by rw [hTQ]; unfold keyT; rw [hnorm]
    have hkp : ∀ W, Below w7.heap.size w7 W → Calls Tryd.prog 15 #[vp] W fun x w' => x = .returned (.string TQ) ∧ Below W.heap.size W w' := fun W h => by
      have := ownKey_any p hgp (by omega) hmp (by rw [hnorm]; exact HMQ.out) W vp (hp7.below h) (hT7.next h)
      rwa [hkt] at this
    have hkq : ∀ W, Below w7.heap.size w7 W → Calls Tryd.prog 15 #[vq] W fun x w' => x = .returned (.string TQ) ∧ Below W.heap.size W w' := fun W h => by
      rw [hTQ]
      exact ownKey_any q HGQ.out (by have := HCQ.out; omega) (by have := HFQ.out; omega) HMQ.out W vq (hq7.below h) (hT7.next h)
    have hnp : ∀ W, Below w7.heap.size w7 W → Calls Tryd.prog 13 #[vp] W fun x w' => ∃ u, x = .returned u ∧ QAt w' u (normQ q) ∧ Below W.heap.size W w' := fun W h =>
      (ownQ_any p hgp (by omega) hmp W vp (hp7.below h)).mono fun x w' ⟨u, h1, h2, h3⟩ => ⟨u, h1, by rw [← hnorm]; exact h2, h3.below⟩
    have hnq : ∀ W, Below w7.heap.size w7 W → Calls Tryd.prog 13 #[vq] W fun x w' => ∃ u, x = .returned u ∧ QAt w' u (normQ q) ∧ Below W.heap.size W w' := fun W h =>
      (ownQ_any q HGQ.out (by have := HCQ.out; omega) (by have := HFQ.out; omega) W vq (hq7.below h)).mono fun x w' ⟨u, h1, h2, h3⟩ => ⟨u, h1, h2, h3.below⟩
    have hnc : (normQ q).fil.count ≤ 100000 := by
      have := Nr.norm_count HGQ.out
      have := HCQ.out
      show (Nr.norm q.fil).count ≤ 100000
      omega
    have hsa : ∀ W u1 u2, Below w7.heap.size w7 W → QAt W u1 (normQ q) → QAt W u2 (normQ q) → Calls Tryd.prog 14 #[u1, u2] W fun x w' => x = .returned (.bool true) ∧ Below W.heap.size W w' := fun W u1 u2 _ h1 h2 =>
      (same_any (normQ q) (normQ q) W u1 u2 h1 h2 hnc hnc).mono fun x w' ⟨b, hx, hb, hl⟩ => ⟨by rw [hx, hb.2 rfl], hl.below⟩
    have hca : ∀ W, Below w7.heap.size w7 W → CB W A 34 #[.int .i64 q.src, .int .i64 q.til, .slice am q.mat.length cm, .int .i64 q.fil.op, .string q.fil.name, .string q.fil.text, .slice ak q.fil.kids.length ck, .bool q.desc, .int .i64 q.lim, .string q.page] := fun W h => (h.block _ HA7.out.lt).trans HA7.out
    have hcc : ∀ W, Below w7.heap.size w7 W → CB W C 34 #[.int .i64 q.src, .int .i64 q.til, .slice am6 M3.length cm6, .int .i64 6, .string ⟨#[]⟩, .string ⟨#[]⟩, .slice (some ⟨D, 0, none⟩) 1 1, .bool q.desc, .int .i64 q.lim, .string ⟨#[112, 97, 103, 101]⟩] := fun W h => (h.block _ (CB.lt HC7.out)).trans HC7.out
    have HKP := Lib.hid hkp
    have HKQ := Lib.hid hkq
    have HNP := Lib.hid hnp
    have HNQ := Lib.hid hnq
    have HSA := Lib.hid hsa
    have HCA7 := Lib.hid hca
    have HCC7 := Lib.hid hcc
    have HVP := Lib.hid hvp2
    have HVQ := Lib.hid hvq
    clear hkp hkq hnp hnq hsa hca hcc hvp hvp2 hvq hp7 hq7 hm7 hr7 hk7 hc7 hw7 hb7 hT7 hnorm hgp hcp hmp hnc hp hTQ hkt HK6 HC6 HR6 HC7 HA7 HMAT HNN HFIL HCA HCC0 HL5 HWC HM3 HML HM3L HGQ HCQ HFQ HMQ HT HSH
    refine (wpIn_wide (n := 9)).1 ?_
    refine wpIn_region_flow (fun _ => trivial) (by kernel_rfl) (fun _ _ w' => Below w7.heap.size w7 w') (fun _ _ u1 u2 => Below u1.heap.size u1 u2) (GV [some (vp), none, some (vq), none, some (.bool true), some (.bool true), some (vp), some (.string TQ), some (vq), some (.string TQ), some (.bool true), some (.bool true), some (.bool true)] [1, 3] (ZSp q)) (fun j => j == 12) (by kernel_rfl) (by kernel_rfl) (fun i j ys v u1 u2 hij _ _ hV hR => GV.keep ZSp.below hij hV hR) ((Below.refl _ w7).drew) ?step ?fin
    case step =>
      refine ⟨?_, ?_, ?_, ?_, ?_, ?_, ?_, ?_, ?_, ?_, ?_, ?_, ?_, trivial⟩
      · intro listed ys X W hsz hsd hi2 hall hX hI hd K hK
        have e6 : X.tmps.getD 6 undef = .pointer (some ⟨C, 0, none⟩) := hX 6 (Nat.le_of_ble_eq_true rfl)
        have c0 := CB.cell (HCC7.out W hI) 0
        have c1 := CB.cell (HCC7.out W hI) 1
        have c2 := CB.cell (HCC7.out W hI) 2
        have c3 := CB.cell (HCC7.out W hI) 3
        have c4 := CB.cell (HCC7.out W hI) 4
        have c5 := CB.cell (HCC7.out W hI) 5
        have c6 := CB.cell (HCC7.out W hI) 6
        have c7 := CB.cell (HCC7.out W hI) 7
        have c8 := CB.cell (HCC7.out W hI) 8
        have c9 := CB.cell (HCC7.out W hI) 9
        simp only [List.getElem?_toArray, List.getElem?_cons_succ, List.getElem?_cons_zero] at c0 c1 c2 c3 c4 c5 c6 c7 c8 c9
        have HI := Lib.hid hI
        refine step_run (.inl rfl) ?_
        clear hX hd hI
        go_simp
        exact hK _ _ HI.out (Below.refl _ _) (GV.of (by decide) (fun u h => by cases h; exact HVP.out))
      · intro listed ys X W hsz hsd hi2 hall hX hI hd K hK
        have e47 : X.tmps.getD 47 undef = vp := (hX 47 (Nat.le_of_ble_eq_true rfl)).trans (GV.val (hd ⟨0, .data⟩ (by simp) rfl) (by decide) rfl)
        have HI := Lib.hid hI
        refine step_run (.inl rfl) ?_
        clear hX hd hI
        go_simp
        refine (callsIn_wide.2 (HNP.out W HI.out)).mono ?_
        rintro e u2 ⟨u, rfl, hu, hb⟩
        exact hK _ _ (HI.out.trans (hb.mono HI.out.size)) hb (GV.ofsp (by decide) hu)
      · intro listed ys X W hsz hsd hi2 hall hX hI hd K hK
        have e5 : X.tmps.getD 5 undef = .pointer (some ⟨A, 0, none⟩) := hX 5 (Nat.le_of_ble_eq_true rfl)
        have c0 := CB.cell (HCA7.out W hI) 0
        have c1 := CB.cell (HCA7.out W hI) 1
        have c2 := CB.cell (HCA7.out W hI) 2
        have c3 := CB.cell (HCA7.out W hI) 3
        have c4 := CB.cell (HCA7.out W hI) 4
        have c5 := CB.cell (HCA7.out W hI) 5
        have c6 := CB.cell (HCA7.out W hI) 6
        have c7 := CB.cell (HCA7.out W hI) 7
        have c8 := CB.cell (HCA7.out W hI) 8
        have c9 := CB.cell (HCA7.out W hI) 9
        simp only [List.getElem?_toArray, List.getElem?_cons_succ, List.getElem?_cons_zero] at c0 c1 c2 c3 c4 c5 c6 c7 c8 c9
        have HI := Lib.hid hI
        refine step_run (.inl rfl) ?_
        clear hX hd hI
        go_simp
        exact hK _ _ HI.out (Below.refl _ _) (GV.of (by decide) (fun u h => by cases h; exact HVQ.out))
      · intro listed ys X W hsz hsd hi2 hall hX hI hd K hK
        have e49 : X.tmps.getD 49 undef = vq := (hX 49 (Nat.le_of_ble_eq_true rfl)).trans (GV.val (hd ⟨2, .data⟩ (by simp) rfl) (by decide) rfl)
        have HI := Lib.hid hI
        refine step_run (.inl rfl) ?_
        clear hX hd hI
        go_simp
        refine (callsIn_wide.2 (HNQ.out W HI.out)).mono ?_
        rintro e u2 ⟨u, rfl, hu, hb⟩
        exact hK _ _ (HI.out.trans (hb.mono HI.out.size)) hb (GV.ofsp (by decide) hu)
      · intro listed ys X W hsz hsd hi2 hall hX hI hd K hK
        have e48 : X.tmps.getD 48 undef = ys 1 := hX 48 (Nat.le_of_ble_eq_true rfl)
        have HY1 := Lib.hid (show QAt W (ys 1) (normQ q) from GV.sp (hd ⟨1, .data⟩ (by simp) rfl) (by decide))
        have e50 : X.tmps.getD 50 undef = ys 3 := hX 50 (Nat.le_of_ble_eq_true rfl)
        have HY3 := Lib.hid (show QAt W (ys 3) (normQ q) from GV.sp (hd ⟨3, .data⟩ (by simp) rfl) (by decide))
        have HI := Lib.hid hI
        refine step_run (.inl rfl) ?_
        clear hX hd hI
        go_simp
        refine (callsIn_wide.2 (HSA.out W _ _ HI.out HY1.out HY3.out)).mono ?_
        rintro e u2 ⟨rfl, hb⟩
        exact hK _ _ (HI.out.trans (hb.mono HI.out.size)) hb (GV.of (by decide) (fun u h => by cases h; rfl))
      · intro listed ys X W hsz hsd hi2 hall hX hI hd K hK
        have e51 : X.tmps.getD 51 undef = .bool true := (hX 51 (Nat.le_of_ble_eq_true rfl)).trans (GV.val (hd ⟨4, .data⟩ (by simp) rfl) (by decide) rfl)
        have HI := Lib.hid hI
        refine step_run (.inl rfl) ?_
        clear hX hd hI
        go_simp
        exact hK _ _ HI.out (Below.refl _ _) (GV.of (by decide) (fun u h => by cases h; rfl))
      · intro listed ys X W hsz hsd hi2 hall hX hI hd K hK
        have eg : X.tmps.getD 52 undef = .bool true := (hX 52 (Nat.le_of_ble_eq_true rfl)).trans (GV.val (hd ⟨5, .guard⟩ (by simp) rfl) (by decide) rfl)
        have e6 : X.tmps.getD 6 undef = .pointer (some ⟨C, 0, none⟩) := hX 6 (Nat.le_of_ble_eq_true rfl)
        have c0 := CB.cell (HCC7.out W hI) 0
        have c1 := CB.cell (HCC7.out W hI) 1
        have c2 := CB.cell (HCC7.out W hI) 2
        have c3 := CB.cell (HCC7.out W hI) 3
        have c4 := CB.cell (HCC7.out W hI) 4
        have c5 := CB.cell (HCC7.out W hI) 5
        have c6 := CB.cell (HCC7.out W hI) 6
        have c7 := CB.cell (HCC7.out W hI) 7
        have c8 := CB.cell (HCC7.out W hI) 8
        have c9 := CB.cell (HCC7.out W hI) 9
        simp only [List.getElem?_toArray, List.getElem?_cons_succ, List.getElem?_cons_zero] at c0 c1 c2 c3 c4 c5 c6 c7 c8 c9
        have HI := Lib.hid hI
        refine step_run (.inr ⟨5, 52, true, rfl, rfl, eg⟩) ?_
        clear hX hd hI
        go_simp
        exact hK _ _ HI.out (Below.refl _ _) (GV.of (by decide) (fun u h => by cases h; exact HVP.out))
      · intro listed ys X W hsz hsd hi2 hall hX hI hd K hK
        have eg : X.tmps.getD 52 undef = .bool true := (hX 52 (Nat.le_of_ble_eq_true rfl)).trans (GV.val (hd ⟨5, .guard⟩ (by simp) rfl) (by decide) rfl)
        have e53 : X.tmps.getD 53 undef = vp := (hX 53 (Nat.le_of_ble_eq_true rfl)).trans (GV.val (hd ⟨6, .data⟩ (by simp) rfl) (by decide) rfl)
        have HI := Lib.hid hI
        refine step_run (.inr ⟨5, 52, true, rfl, rfl, eg⟩) ?_
        clear hX hd hI
        go_simp
        refine (callsIn_wide.2 (HKP.out W HI.out)).mono ?_
        rintro e u2 ⟨rfl, hb⟩
        exact hK _ _ (HI.out.trans (hb.mono HI.out.size)) hb (GV.of (by decide) (fun u h => by cases h; rfl))
      · intro listed ys X W hsz hsd hi2 hall hX hI hd K hK
        have eg : X.tmps.getD 52 undef = .bool true := (hX 52 (Nat.le_of_ble_eq_true rfl)).trans (GV.val (hd ⟨5, .guard⟩ (by simp) rfl) (by decide) rfl)
        have e5 : X.tmps.getD 5 undef = .pointer (some ⟨A, 0, none⟩) := hX 5 (Nat.le_of_ble_eq_true rfl)
        have c0 := CB.cell (HCA7.out W hI) 0
        have c1 := CB.cell (HCA7.out W hI) 1
        have c2 := CB.cell (HCA7.out W hI) 2
        have c3 := CB.cell (HCA7.out W hI) 3
        have c4 := CB.cell (HCA7.out W hI) 4
        have c5 := CB.cell (HCA7.out W hI) 5
        have c6 := CB.cell (HCA7.out W hI) 6
        have c7 := CB.cell (HCA7.out W hI) 7
        have c8 := CB.cell (HCA7.out W hI) 8
        have c9 := CB.cell (HCA7.out W hI) 9
        simp only [List.getElem?_toArray, List.getElem?_cons_succ, List.getElem?_cons_zero] at c0 c1 c2 c3 c4 c5 c6 c7 c8 c9
        have HI := Lib.hid hI
        refine step_run (.inr ⟨5, 52, true, rfl, rfl, eg⟩) ?_
        clear hX hd hI
        go_simp
        exact hK _ _ HI.out (Below.refl _ _) (GV.of (by decide) (fun u h => by cases h; exact HVQ.out))
      · intro listed ys X W hsz hsd hi2 hall hX hI hd K hK
        have eg : X.tmps.getD 52 undef = .bool true := (hX 52 (Nat.le_of_ble_eq_true rfl)).trans (GV.val (hd ⟨5, .guard⟩ (by simp) rfl) (by decide) rfl)
        have e55 : X.tmps.getD 55 undef = vq := (hX 55 (Nat.le_of_ble_eq_true rfl)).trans (GV.val (hd ⟨8, .data⟩ (by simp) rfl) (by decide) rfl)
        have HI := Lib.hid hI
        refine step_run (.inr ⟨5, 52, true, rfl, rfl, eg⟩) ?_
        clear hX hd hI
        go_simp
        refine (callsIn_wide.2 (HKQ.out W HI.out)).mono ?_
        rintro e u2 ⟨rfl, hb⟩
        exact hK _ _ (HI.out.trans (hb.mono HI.out.size)) hb (GV.of (by decide) (fun u h => by cases h; rfl))
      · intro listed ys X W hsz hsd hi2 hall hX hI hd K hK
        have eg : X.tmps.getD 52 undef = .bool true := (hX 52 (Nat.le_of_ble_eq_true rfl)).trans (GV.val (hd ⟨5, .guard⟩ (by simp) rfl) (by decide) rfl)
        have e54 : X.tmps.getD 54 undef = .string TQ := (hX 54 (Nat.le_of_ble_eq_true rfl)).trans (GV.val (hd ⟨7, .data⟩ (by simp) rfl) (by decide) rfl)
        have e56 : X.tmps.getD 56 undef = .string TQ := (hX 56 (Nat.le_of_ble_eq_true rfl)).trans (GV.val (hd ⟨9, .data⟩ (by simp) rfl) (by decide) rfl)
        have HI := Lib.hid hI
        refine step_run (.inr ⟨5, 52, true, rfl, rfl, eg⟩) ?_
        clear hX hd hI
        go_simp
        exact hK _ _ HI.out (Below.refl _ _) (GV.of (by decide) (fun u h => by cases h; rfl))
      · intro listed ys X W hsz hsd hi2 hall hX hI hd K hK
        have e52 : X.tmps.getD 52 undef = .bool true := (hX 52 (Nat.le_of_ble_eq_true rfl)).trans (GV.val (hd ⟨5, .data⟩ (by simp) rfl) (by decide) rfl)
        have e57 : X.tmps.getD 57 undef = .bool true := (hX 57 (Nat.le_of_ble_eq_true rfl)).trans (GV.val (hd ⟨10, .data⟩ (by simp) rfl) (by decide) rfl)
        have HI := Lib.hid hI
        refine step_run (.inl rfl) ?_
        clear hX hd hI
        go_simp
        exact hK _ _ HI.out (Below.refl _ _) (GV.of (by decide) (fun u h => by cases h; rfl))
      · intro listed ys X W hsz hsd hi2 hall hX hI hd K hK
        have e58 : X.tmps.getD 58 undef = .bool true := (hX 58 (Nat.le_of_ble_eq_true rfl)).trans (GV.val (hd ⟨11, .data⟩ (by simp) rfl) (by decide) rfl)
        have HI := Lib.hid hI
        refine step_run (.inl rfl) ?_
        clear hX hd hI
        go_simp
        exact hK _ _ HI.out (Below.refl _ _) (GV.of (by decide) (fun u h => by cases h; rfl))
    case fin =>
      intro listed ys w8 hall hI hV
      have hy := GV.val (hV 12 (by decide) rfl) (by decide) rfl
      have HB8 := Lib.hid (HB7.out.trans (hI.mono HB7.out.size))
      clear hall hI hV
      refine fin_of 4 (v := .bool true) ?_ (by simp) hy
      intro P6 h6 hdf
      have x6 : P6.tmps[4]?.getD undef = .bool true := by rw [← Array.getD_eq_getD_getElem?]; exact h6
      go_wp2_with fail
      refine bodyPost_ret (v := .bool true) (by simp [results, Tryd.results4, go_sem, x6]) hdf ⟨rfl, HB8.out⟩

end Go.Proofs.YtkckgjanfiiieaaDoor
