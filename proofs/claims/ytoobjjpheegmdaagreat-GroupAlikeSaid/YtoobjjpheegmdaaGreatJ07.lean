/-
  Ct13, Gv12.
-/
import Derived.Test.YtoobjjpheegmdaaGreatJ06
import Derived.Shelf.SlSortCmp.QuietGrown
import Derived.Shelf.SlSorted.Search
import Derived.Test.YtoobjjpheegmdaaGreatJ05
namespace Go.Proofs.YtoobjjpheegmdaaGreat.E4
open Go.RowKit Go
open Go.Sort (grow)
def mkV (has : Bool) (e : Ent) (lv : Value) : Value := .agg #[.bool has, .int .i64 e.tm, lv, .string e.line]
def mkO (has : Bool) (e : Ent) : Option Ent := if has then some e else none
set_option maxHeartbeats 4000000 in
set_option maxRecDepth 100000 in
theorem befF (m x : Ent) (ml xl : Value) (g off i n cl O K B : Nat) (w : World) (hO : w.cell? ⟨O, 0, none⟩ = some (.func (.func 109) #[] #[])) (k1 : w.cell? ⟨K, 1, none⟩ = some (.int .i64 m.tm)) (k2 : w.cell? ⟨K, 2, none⟩ = some ml) (k3 : w.cell? ⟨K, 3, none⟩ = some (.string m.line))
    (hB : w.cell? ⟨B, 0, none⟩ = some (.slice (some ⟨g, off, none⟩) n cl)) (x0 : w.cell? ⟨g, off + i * 3, none⟩ = some (.int .i64 x.tm)) (x1 : w.cell? ⟨g, off + i * 3 + 1, none⟩ = some xl) (x2 : w.cell? ⟨g, off + i * 3 + 2, none⟩ = some (.string x.line))
    (hm : LabsAt (fun _ => True) w ml m.labs) (hx : LabsAt (fun _ => True) w xl x.labs) (hi : i < n) :
    Calls Tryz.prog 108 #[.int .i64 i, .pointer (some ⟨O, 0, none⟩), .pointer (some ⟨K, 0, none⟩), .pointer (some ⟨B, 0, none⟩)] w fun e w' => e = .returned (.bool (decide (ordC false m x = -1))) ∧ Lay w w' := by
  have hmx : Tryz.prog.follows .mixedOrders = true := by kernel_rfl
  obtain ⟨am, cm, rfl, _⟩ := id hm
  obtain ⟨ax, cx, rfl, _⟩ := id hx
  have gO := cell_grown (World.block_lt_of_cell? w _ hO) hO
  have g1 := cell_grown (World.block_lt_of_cell? w _ k1) k1
  have g2 := cell_grown (World.block_lt_of_cell? w _ k2) k2
  have g3 := cell_grown (World.block_lt_of_cell? w _ k3) k3
  have gB := cell_grown (World.block_lt_of_cell? w _ hB) hB
  have gx0 := cell_grown (World.block_lt_of_cell? w _ x0) x0
  have gx1 := cell_grown (World.block_lt_of_cell? w _ x1) x1
  have gx2 := cell_grown (World.block_lt_of_cell? w _ x2) x2
  have hS : ∀ n os, Calls Tryz.prog 109 #[m.val (.slice am m.labs.length cm), x.val (.slice ax x.labs.length cx)] (Sort.grow (w.drewN n) os) fun e w'' => e = .returned (.int .i64 (ordC false m x)) ∧ ∃ p : GrownBy, w'' = Sort.grow (w.drewN p.n) p.os :=
    fun n os => grown_of_lay (ordF_any false (hm.lay (Lay.of_grown n os)) (hx.lay (Lay.of_grown n os)))
  have hd : decide (ordC false m x < 0) = decide (ordC false m x = -1) := by
    have := (ordC_lc false).tri m x
    rw [decide_eq_decide]
    omega
  simp only [Ent.val] at hS
  rw [← hd]
  generalize ordC false m x = r at hS ⊢
  have hi1 : (i : Int) < (n : Int) := by omega
  have hi0 : ¬ (i : Int) < 0 := by omega
  clear hd hm hx hO k1 k2 k3 hB x0 x1 x2
  go_enter Tryz.func108, Tryz.ntmps108
  go_wp2_with fail
  go_quiet_grown (with_reducible exact hS _ _)
  go_wp2_with fail
  go_ret
  exact ⟨rfl, Lay.of_grown nq osq⟩
set_option maxHeartbeats 4000000 in
set_option maxRecDepth 100000 in
theorem befT (m x : Ent) (ml xl : Value) (g off i n cl O K B : Nat) (w : World) (hO : w.cell? ⟨O, 0, none⟩ = some (.func (.func 110) #[] #[])) (k1 : w.cell? ⟨K, 1, none⟩ = some (.int .i64 m.tm)) (k2 : w.cell? ⟨K, 2, none⟩ = some ml) (k3 : w.cell? ⟨K, 3, none⟩ = some (.string m.line))
    (hB : w.cell? ⟨B, 0, none⟩ = some (.slice (some ⟨g, off, none⟩) n cl)) (x0 : w.cell? ⟨g, off + i * 3, none⟩ = some (.int .i64 x.tm)) (x1 : w.cell? ⟨g, off + i * 3 + 1, none⟩ = some xl) (x2 : w.cell? ⟨g, off + i * 3 + 2, none⟩ = some (.string x.line))
    (hm : LabsAt (fun _ => True) w ml m.labs) (hx : LabsAt (fun _ => True) w xl x.labs) (hi : i < n) :
    Calls Tryz.prog 108 #[.int .i64 i, .pointer (some ⟨O, 0, none⟩), .pointer (some ⟨K, 0, none⟩), .pointer (some ⟨B, 0, none⟩)] w fun e w' => e = .returned (.bool (decide (ordC true m x = -1))) ∧ Lay w w' := by
  have hmx : Tryz.prog.follows .mixedOrders = true := by kernel_rfl
  obtain ⟨am, cm, rfl, _⟩ := id hm
  obtain ⟨ax, cx, rfl, _⟩ := id hx
  have gO := cell_grown (World.block_lt_of_cell? w _ hO) hO
  have g1 := cell_grown (World.block_lt_of_cell? w _ k1) k1
  have g2 := cell_grown (World.block_lt_of_cell? w _ k2) k2
  have g3 := cell_grown (World.block_lt_of_cell? w _ k3) k3
  have gB := cell_grown (World.block_lt_of_cell? w _ hB) hB
  have gx0 := cell_grown (World.block_lt_of_cell? w _ x0) x0
  have gx1 := cell_grown (World.block_lt_of_cell? w _ x1) x1
  have gx2 := cell_grown (World.block_lt_of_cell? w _ x2) x2
  have hS : ∀ n os, Calls Tryz.prog 110 #[m.val (.slice am m.labs.length cm), x.val (.slice ax x.labs.length cx)] (Sort.grow (w.drewN n) os) fun e w'' => e = .returned (.int .i64 (ordC true m x)) ∧ ∃ p : GrownBy, w'' = Sort.grow (w.drewN p.n) p.os :=
    fun n os => grown_of_lay (ordF_any true (hm.lay (Lay.of_grown n os)) (hx.lay (Lay.of_grown n os)))
  have hd : decide (ordC true m x < 0) = decide (ordC true m x = -1) := by
    have := (ordC_lc true).tri m x
    rw [decide_eq_decide]
    omega
  simp only [Ent.val] at hS
  rw [← hd]
  generalize ordC true m x = r at hS ⊢
  have hi1 : (i : Int) < (n : Int) := by omega
  have hi0 : ¬ (i : Int) < 0 := by omega
  clear hd hm hx hO k1 k2 k3 hB x0 x1 x2
  go_enter Tryz.func108, Tryz.ntmps108
  go_wp2_with fail
  go_quiet_grown (with_reducible exact hS _ _)
  go_wp2_with fail
  go_ret
  exact ⟨rfl, Lay.of_grown nq osq⟩
theorem bef_any (desc : Bool) (m x : Ent) (ml xl : Value) (g off i n cl O K B : Nat) (w : World) (hO : w.cell? ⟨O, 0, none⟩ = some (.func (.func (ordF desc)) #[] #[])) (k1 : w.cell? ⟨K, 1, none⟩ = some (.int .i64 m.tm)) (k2 : w.cell? ⟨K, 2, none⟩ = some ml) (k3 : w.cell? ⟨K, 3, none⟩ = some (.string m.line))
    (hB : w.cell? ⟨B, 0, none⟩ = some (.slice (some ⟨g, off, none⟩) n cl)) (x0 : w.cell? ⟨g, off + i * 3, none⟩ = some (.int .i64 x.tm)) (x1 : w.cell? ⟨g, off + i * 3 + 1, none⟩ = some xl) (x2 : w.cell? ⟨g, off + i * 3 + 2, none⟩ = some (.string x.line))
    (hm : LabsAt (fun _ => True) w ml m.labs) (hx : LabsAt (fun _ => True) w xl x.labs) (hi : i < n) :
    Calls Tryz.prog 108 #[.int .i64 i, .pointer (some ⟨O, 0, none⟩), .pointer (some ⟨K, 0, none⟩), .pointer (some ⟨B, 0, none⟩)] w fun e w' => e = .returned (.bool (decide (ordC desc m x = -1))) ∧ Lay w w' := by
  cases desc
  · exact befF m x ml xl g off i n cl O K B w hO k1 k2 k3 hB x0 x1 x2 hm hx hi
  · exact befT m x ml xl g off i n cl O K B w hO k1 k2 k3 hB x0 x1 x2 hm hx hi
theorem EntsAt.drop {G L : Nat → Prop} {w : World} {b off n c : Nat} {l : List Ent} (h : EntsAt G L w (.slice (some ⟨b, off, none⟩) n c) l) (q : Nat) (c' : Nat) : EntsAt G L w (.slice (some ⟨b, off + q * 3, none⟩) (n - q) c') (l.drop q) := by
  obtain ⟨a, cap, hv, hn, h⟩ := h
  simp only [Value.slice.injEq] at hv
  obtain ⟨rfl, rfl, rfl⟩ := hv
  refine ⟨_, c', by rw [List.length_drop], by rw [List.length_drop]; omega, ?_⟩
  rcases h with rfl | ⟨b', off', hb', hg, hlt, hc⟩
  · exact .inl List.drop_nil
  · simp only [Option.some.injEq, Addr.mk.injEq, and_true] at hb'
    obtain ⟨rfl, rfl⟩ := hb'
    refine .inr ⟨b, off + q * 3, rfl, hg, hlt, fun i hi => ?_⟩
    rw [List.length_drop] at hi
    have := hc (q + i) (by omega)
    rw [List.getElem_drop, show off + q * 3 + i * 3 = off + (q + i) * 3 by omega]
    exact this
theorem EntsAt.none {w : World} (G L : Nat → Prop) (a : Option Addr) (c : Nat) : EntsAt G L w (.slice a 0 c) [] := ⟨a, c, rfl, by simp, .inl rfl⟩
theorem EntsAt.take {G L : Nat → Prop} {w : World} {a : Option Addr} {n c : Nat} {l : List Ent} (h : EntsAt G L w (.slice a n c) l) (q : Nat) (hq : q ≤ n) (c' : Nat) : EntsAt G L w (.slice a q c') (l.take q) := by
  obtain ⟨a', cap, hv, hn, h⟩ := h
  simp only [Value.slice.injEq] at hv
  obtain ⟨rfl, rfl, rfl⟩ := hv
  have hl : (l.take q).length = q := by rw [List.length_take]; omega
  refine ⟨a, c', by rw [hl], by omega, ?_⟩
  rcases h with rfl | ⟨b, off, hb, hg, hlt, hc⟩
  · exact .inl (by simp)
  · refine .inr ⟨b, off, hb, hg, hlt, fun i hi => ?_⟩
    rw [hl] at hi
    have := hc i (by omega)
    rw [List.getElem_take]
    exact this
def BehP (G L : Nat → Prop) (rest : List Ent) (w : World) (e : Ending) (w' : World) : Prop :=
  ∃ a c, e = .returned (.slice a rest.length c) ∧ EntsAt G L w' (.slice a rest.length c) rest ∧ rest.length ≤ c ∧ Lay w w'
set_option maxHeartbeats 8000000 in
set_option maxRecDepth 100000 in
theorem behind_any (desc has : Bool) (m : Ent) (ml : Value) {G L : Nat → Prop} (l : List Ent) (v : Value) (w : World) (hl : EntsAt G L w v l) (hsq : Sq v l.length) (hm : LabsAt (fun _ => True) w ml m.labs) (hin : Md.InRow (ordC desc) l) (hn : l.length ≤ 1000000) :
    Calls Tryz.prog 87 #[v, .bool desc, mkV has m ml] w (BehP G L (Md.rest (ordC desc) (mkO has m) l) w) := by
  have hmx : Tryz.prog.follows .mixedOrders = true := by kernel_rfl
  obtain ⟨am, cm, rfl, hm63, _⟩ := id hm
  unfold mkV mkO
  cases has with
  | false =>
    have er : Md.rest (ordC desc) none l = l := Md.rest_none l
    obtain ⟨a, c, rfl, hc⟩ : ∃ a c, v = .slice a l.length c ∧ l.length ≤ c := by
      rcases hsq with ⟨h1, h2⟩ | ⟨g, c, h1, h2⟩
      · exact ⟨none, 0, by rw [h1, h2], by omega⟩
      · exact ⟨_, c, h1, h2⟩
    have HL := Lib.hid hl
    simp only [Bool.false_eq_true, if_false]
    rw [er]
    have hl0 : Lay w ((w.alloc (.cells #[.slice a l.length c] 43)).alloc (.cells #[.bool false, .int .i64 m.tm, .slice am m.labs.length cm, .string m.line] 38)) := ((Keep.refl _ _).alloc _).alloc _
    have HL0 := Lib.hid hl0
    clear hl hl0 hsq hm hin er
    go_enter Tryz.func87, Tryz.ntmps87
    go_wp2_with fail
    go_ret
    exact ⟨a, c, rfl, HL.out.lay HL0.out, hc, HL0.out⟩
  | true =>
    simp only [if_true]
    obtain ⟨k, hk⟩ : ∃ k, k = (List.range l.length).countP fun i => !Md.isB (ordC desc) m l ⟨0, [], ⟨#[]⟩⟩ i := ⟨_, rfl⟩
    have hkl : k ≤ l.length := by rw [hk]; exact Md.countP_le m _ l
    have er : Md.rest (ordC desc) (some m) l = l.drop k := by rw [hk]; exact (Md.drop_isB (ordC_lc desc) m _ hin).symm
    have HMON := Lib.hid (fun i j => Md.isB_mono (ordC_lc desc) (a := m) (d := ⟨0, [], ⟨#[]⟩⟩) hin i j)
    rw [er]
    have HK := Lib.hid hk
    have hord : ∀ w, Calls Tryz.prog 89 #[.bool desc] w fun e w' => e = .returned (.func (.func (ordF desc)) #[] #[]) ∧ w = w' := fun w => (order_any desc w).mono fun _ _ ⟨a, b⟩ => ⟨a, b.symm⟩
    obtain ⟨W1, hW1⟩ : ∃ W1, W1 = ((w.alloc (.cells #[v] 43)).alloc (.cells #[.bool true, .int .i64 m.tm, .slice am m.labs.length cm, .string m.line] 38)).alloc (.cells #[.func (.func (ordF desc)) #[] #[]] 150) := ⟨_, rfl⟩
    have hl1 : Lay w W1 := by rw [hW1]; exact (((Keep.refl _ _).alloc _).alloc _).alloc _
    have hO : W1.cell? ⟨w.heap.size + 1 + 1, 0, none⟩ = some (.func (.func (ordF desc)) #[] #[]) := by
      have := CB.cell (CB.new ((w.alloc (.cells #[v] 43)).alloc (.cells #[.bool true, .int .i64 m.tm, .slice am m.labs.length cm, .string m.line] 38)) 150 #[.func (.func (ordF desc)) #[] #[]]) 0
      rw [World.size_alloc, World.size_alloc] at this
      rw [hW1]; exact this
    have hKB : CB W1 (w.heap.size + 1) 38 #[.bool true, .int .i64 m.tm, .slice am m.labs.length cm, .string m.line] := by
      have := CB.new (w.alloc (.cells #[v] 43)) 38 #[.bool true, .int .i64 m.tm, .slice am m.labs.length cm, .string m.line]
      rw [World.size_alloc] at this
      rw [hW1]; exact (Below.heap_alloc _ _ _ (by simp)).trans this
    have hBB : CB W1 w.heap.size 43 #[v] := by
      rw [hW1]; exact (Below.heap_alloc _ _ _ (by simp; omega)).trans ((Below.heap_alloc _ _ _ (by simp)).trans (CB.new w 43 #[v]))
    have HL1 := Lib.hid (hl.lay hl1)
    have HM1 := Lib.hid (hm.lay hl1)
    have HLY := Lib.hid hl1
    have HSR : Hid (Calls Tryz.prog 107 #[.int .i64 l.length, .func (.func 108) #[] #[.pointer (some ⟨w.heap.size + 1 + 1, 0, none⟩), .pointer (some ⟨w.heap.size + 1, 0, none⟩), .pointer (some ⟨w.heap.size, 0, none⟩)]] W1 fun e w' => e = .returned (.int .i64 (k : Nat)) ∧ Lay W1 w') := Lib.hid (by
      have h := Any.sort_Search Tryz.search 108 #[.pointer (some ⟨w.heap.size + 1 + 1, 0, none⟩), .pointer (some ⟨w.heap.size + 1, 0, none⟩), .pointer (some ⟨w.heap.size, 0, none⟩)] l.length (Md.isB (ordC desc) m l ⟨0, [], ⟨#[]⟩⟩) W1 (enters_of Tryz.func108 (by kernel_rfl) rfl) (by omega)
        (fun mm os i hi => by
          have hlg : Lay W1 (grow (W1.drewN mm) os) := Lay.of_grown mm os
          rcases hsq with ⟨h1, h2⟩ | ⟨g, c, rfl, hc⟩
          · omega
          obtain ⟨a', c', hv, _, h0 | ⟨b', off', ha, _, hb, hcs⟩⟩ := (hl.lay hl1)
          · rw [h0] at hi; simp at hi
          simp only [Value.slice.injEq, true_and] at hv
          obtain ⟨rfl, rfl⟩ := hv
          simp only [Option.some.injEq, Addr.mk.injEq, and_true] at ha
          obtain ⟨rfl, rfl⟩ := ha
          obtain ⟨lv, x0, x1, x2, x3⟩ := hcs i hi
          have hgd : l.getD i ⟨0, [], ⟨#[]⟩⟩ = l[i] := by simp [List.getD, hi]
          have he : Md.isB (ordC desc) m l ⟨0, [], ⟨#[]⟩⟩ i = decide (ordC desc m l[i] = -1) := by unfold Md.isB; rw [hgd]
          rw [he]
          have k1 := hKB.cell 1
          have k2 := hKB.cell 2
          have k3 := hKB.cell 3
          have b0 := hBB.cell 0
          simp only [List.getElem?_toArray, List.getElem?_cons_succ, List.getElem?_cons_zero] at k1 k2 k3 b0
          have h := bef_any desc m l[i] (.slice am m.labs.length cm) lv g 0 i l.length c (w.heap.size + 1 + 1) (w.heap.size + 1) w.heap.size (grow (W1.drewN mm) os)
            ((hlg.cell (World.block_lt_of_cell? W1 _ hO)).trans hO) ((hlg.cell hKB.lt).trans k1) ((hlg.cell hKB.lt).trans k2) ((hlg.cell hKB.lt).trans k3) ((hlg.cell hBB.lt).trans b0)
            ((hlg.cell hb).trans x0) ((hlg.cell hb).trans x1) ((hlg.cell hb).trans x2) ((hm.lay hl1).lay hlg) ((x3.mono (fun _ _ _ => trivial)).lay hlg) hi
          exact h.mono fun e w' ⟨h1, h2⟩ => ⟨h1, h2.grown⟩)
        (fun i j hij hj hi => HMON.out i j hij hj hi)
      rw [← hk] at h
      exact h.mono fun e w' ⟨h1, q, os, h2⟩ => ⟨h1, by rw [h2]; exact Lay.of_grown q os⟩)
    have hBc := hBB.cell 0
    have hBl := hBB.lt
    simp only [List.getElem?_toArray, List.getElem?_cons_zero] at hBc
    have HW1 := Lib.hid hW1.symm
    have HDL : Hid ((l.drop k).length = l.length - k) := Lib.hid List.length_drop
    clear hl hm hin er hk hl1 hO hKB hBB hW1
    rcases hsq with ⟨rfl, h2⟩ | ⟨g, c, rfl, hc⟩
    · obtain rfl : l = [] := List.eq_nil_of_length_eq_zero h2
      obtain rfl : k = 0 := by simpa using hkl
      go_enter Tryz.func87, Tryz.ntmps87
      go_wp2_with fail
      refine (hord _).mono ?_
      rintro e w' ⟨rfl, rfl⟩
      go_wp2_with fail
      rw [HW1.out]
      go_wp2_with fail
      refine HSR.out.mono ?_
      rintro e w2 ⟨rfl, hl2⟩
      have HL2 := Lib.hid (Keep.trans HLY.out hl2)
      have b2 := (hl2.cell hBl).trans hBc
      clear hl2 hBc hord
      go_wp2_with fail
      go_ret
      exact ⟨none, 0, rfl, EntsAt.none _ _ _ _, by simp, HL2.out⟩
    · have hlc : (l.length : Int) ≤ (c : Int) := by omega
      have hk0 : ¬ (k : Int) < 0 := by omega
      have hk1 : (k : Int) ≤ (l.length : Int) := by omega
      have hk2 : (k : Int) ≤ (c : Int) := by omega
      by_cases hck : c = k
      · have hkn : k = l.length := by omega
        have hcn : c = l.length := by omega
        subst hcn
        subst hkn
        clear hck
        go_enter Tryz.func87, Tryz.ntmps87
        go_wp2_with fail
        refine (hord _).mono ?_
        rintro e w' ⟨rfl, rfl⟩
        go_wp2_with fail
        rw [HW1.out]
        go_wp2_with fail
        refine HSR.out.mono ?_
        rintro e w2 ⟨rfl, hl2⟩
        have HL2 := Lib.hid (Keep.trans HLY.out hl2)
        have HL12 := Lib.hid hl2
        have b2 := (hl2.cell hBl).trans hBc
        clear hl2 hBc hord
        go_wp2_with fail
        go_ret
        rw [List.drop_length]
        exact ⟨some ⟨g, 0, none⟩, 0, rfl, EntsAt.none _ _ _ _, by simp, HL2.out⟩
      · go_enter Tryz.func87, Tryz.ntmps87
        go_wp2_with fail
        refine (hord _).mono ?_
        rintro e w' ⟨rfl, rfl⟩
        go_wp2_with fail
        rw [HW1.out]
        go_wp2_with fail
        refine HSR.out.mono ?_
        rintro e w2 ⟨rfl, hl2⟩
        have HL2 := Lib.hid (Keep.trans HLY.out hl2)
        have HL12 := Lib.hid hl2
        have b2 := (hl2.cell hBl).trans hBc
        clear hl2 hBc hord
        go_wp2_with fail
        go_ret
        refine ⟨some ⟨g, k * 3, none⟩, c - k, by rw [HDL.out]; rfl, ?_, by rw [HDL.out]; omega, HL2.out⟩
        rw [HDL.out]
        have h := (HL1.out.lay HL12.out).drop k (c - k)
        rw [Nat.zero_add] at h
        exact h
def CutR (L : Nat → Prop) (r : List Ent × Bool) (w : World) (e : Ending) (w' : World) : Prop :=
  ∃ v R, e = .returned (.tuple #[v, .bool r.2]) ∧ Rk 3 (fun b => w.heap.size ≤ b) w' v R.length (flatR R) ∧ RawL L w' R ∧ R.map Prod.snd = r.1 ∧ Lay w w'
set_option maxHeartbeats 8000000 in
set_option maxRecDepth 100000 in
theorem cut_any (desc has : Bool) (m : Ent) (ml : Value) {G L : Nat → Prop} (l : List Ent) (v : Value) (n : Int) (w : World) (hl : EntsAt G L w v l) (hsq : Sq v l.length) (hm : LabsAt (fun _ => True) w ml m.labs) (hin : Md.InRow (ordC desc) l) (hn : l.length ≤ 1000000) :
    Calls Tryz.prog 76 #[v, .bool desc, mkV has m ml, .int .i64 n] w (CutR L (Md.cut (ordC desc) (mkO has m) n.toNat l) w) := by
  have hmx : Tryz.prog.follows .mixedOrders = true := by kernel_rfl
  obtain ⟨am, cm, rfl, hm63, _⟩ := id hm
  obtain ⟨W0, hW0⟩ : ∃ W0, W0 = w.alloc (.cells #[.bool has, .int .i64 m.tm, .slice am m.labs.length cm, .string m.line] 38) := ⟨_, rfl⟩
  have hl0 : Lay w W0 := by rw [hW0]; exact (Keep.refl _ _).alloc _
  have HBE := Lib.hid (behind_any desc has m _ l v W0 (hl.lay hl0) hsq (hm.lay hl0) hin hn)
  have hrl : (Md.rest (ordC desc) (mkO has m) l).length ≤ 1000000 := Nat.le_trans (Md.rest_len _ _) hn
  have hcut : Md.cut (ordC desc) (mkO has m) n.toNat l = ((Md.rest (ordC desc) (mkO has m) l).take n.toNat, decide ((Md.rest (ordC desc) (mkO has m) l).length ≤ n.toNat)) := rfl
  rw [hcut]
  generalize Md.rest (ordC desc) (mkO has m) l = r at HBE hrl ⊢
  have HW0 := Lib.hid hW0.symm
  have HL0 := Lib.hid hl0
  have HM0 : Hid (W0.cell? ⟨w.heap.size, 0, none⟩ = some (.bool has) ∧ W0.cell? ⟨w.heap.size, 1, none⟩ = some (.int .i64 m.tm) ∧ W0.cell? ⟨w.heap.size, 2, none⟩ = some (.slice am m.labs.length cm) ∧ W0.cell? ⟨w.heap.size, 3, none⟩ = some (.string m.line)) := Lib.hid (by
    have h := CB.new w 38 #[.bool has, .int .i64 m.tm, .slice am m.labs.length cm, .string m.line]
    rw [← hW0] at h
    exact ⟨h.cell 0, h.cell 1, h.cell 2, h.cell 3⟩)
  clear hl hm hin hn hl0 hsq hcut hW0
  unfold mkV at HBE ⊢
  go_enter Tryz.func76, Tryz.ntmps76
  go_wp2_with fail
  rw [HW0.out]
  refine HBE.out.mono ?_
  rintro e w1 ⟨a, c, rfl, hent, hc, hl1⟩
  have HE1 := Lib.hid hent
  have HL1 := Lib.hid (Keep.trans HL0.out hl1)
  clear hent hl1 HBE HM0
  obtain ⟨q, hq⟩ : ∃ q : Nat, q = min n.toNat r.length := ⟨_, rfl⟩
  have e1 : min (max n 0) (r.length : Int) = (q : Int) := by omega
  have hqr : q ≤ r.length := by omega
  have htk : r.take n.toNat = r.take q := by rw [hq, Md.take_min]
  have HCL := Lib.hid (clone_any (HE1.out.take q hqr c) (by rw [List.length_take]; omega))
  have HTK := Lib.hid htk
  clear htk
  by_cases hle : r.length ≤ n.toNat
  · obtain rfl : q = r.length := by omega
    have HD := Lib.hid (decide_eq_true hle)
    clear hle hq
    go_wp2_with fail
    refine HCL.out.mono ?_
    rintro e w2 ⟨v2, R, rfl, hrk, hR, hRL, hl2⟩
    have HR := Lib.hid hR
    have HRK := Lib.hid hrk
    have HRL := Lib.hid hRL
    have HL2 := Lib.hid (Keep.trans HL1.out hl2)
    clear hrk hR hRL hl2 HCL
    go_wp2_with fail
    go_ret2
    have hl0 : (R.map Prod.snd).length = R.length := List.length_map ..
    have hlen := hl0.symm.trans (congrArg List.length HR.out)
    exact ⟨v2, R, by rw [HD.out]; rfl, by rw [hlen]; exact HRK.out.mono (fun b hb _ => Nat.le_trans HL1.out.size hb), HRL.out, by show _ = r.take n.toNat; rw [HTK.out]; exact HR.out, HL2.out⟩
  · have hne : ((q : Int) == (r.length : Int)) = false := by
      have : (q : Int) ≠ (r.length : Int) := by omega
      simpa using this
    have HD := Lib.hid (decide_eq_false hle)
    clear hle hq
    go_wp2_with fail
    refine HCL.out.mono ?_
    rintro e w2 ⟨v2, R, rfl, hrk, hR, hRL, hl2⟩
    have HR := Lib.hid hR
    have HRK := Lib.hid hrk
    have HRL := Lib.hid hRL
    have HL2 := Lib.hid (Keep.trans HL1.out hl2)
    clear hrk hR hRL hl2 HCL
    go_wp2_with fail
    go_ret2
    have hl0 : (R.map Prod.snd).length = R.length := List.length_map ..
    have hlen := hl0.symm.trans (congrArg List.length HR.out)
    exact ⟨v2, R, by rw [HD.out]; rfl, by rw [hlen]; exact HRK.out.mono (fun b hb _ => Nat.le_trans HL1.out.size hb), HRL.out, by show _ = r.take n.toNat; rw [HTK.out]; exact HR.out, HL2.out⟩
end Go.Proofs.YtoobjjpheegmdaaGreat.E4
namespace Go.Proofs.YtoobjjpheegmdaaGreat.E4
open Go.RowKit Go
def GV (cs : List (Option Value)) (S : List Nat) (sp : Nat → Value → World → Prop) (j : Nat) (ys : Nat → Value) (w : World) : Prop :=
  if j ∈ S then sp j (ys j) w else ∀ v, cs.getD j none = some v → ys j = v
theorem GV.keep {cs : List (Option Value)} {S : List Nat} {sp : Nat → Value → World → Prop} (hsp : ∀ j v w w', sp j v w → Below w.heap.size w w' → sp j v w') {i j : Nat} {ys : Nat → Value} {v : Value} {w w' : World} (hij : i ≠ j) (h : GV cs S sp j ys w) (hb : Below w.heap.size w w') : GV cs S sp j (H3.upd ys i v) w' := by
  unfold GV at h ⊢
  by_cases hS : j ∈ S
  · rw [if_pos hS] at h ⊢
    rw [H3.upd_other ys v (Ne.symm hij)]
    exact hsp _ _ _ _ h hb
  · rw [if_neg hS] at h ⊢
    intro u hu
    rw [H3.upd_other ys v (Ne.symm hij)]
    exact h u hu
theorem GV.val {cs : List (Option Value)} {S : List Nat} {sp : Nat → Value → World → Prop} {j : Nat} {ys : Nat → Value} {w : World} {v : Value} (h : GV cs S sp j ys w) (hj : j ∉ S) (hv : cs.getD j none = some v) : ys j = v := by
  unfold GV at h
  rw [if_neg hj] at h
  exact h v hv
theorem GV.of {cs : List (Option Value)} {S : List Nat} {sp : Nat → Value → World → Prop} {j : Nat} {ys : Nat → Value} {w : World} {v : Value} (hj : j ∉ S) (hv : ∀ u, cs.getD j none = some u → u = v) : GV cs S sp j (H3.upd ys j v) w := by
  unfold GV
  rw [if_neg hj]
  intro u hu
  rw [H3.upd_same, hv u hu]
theorem GV.spv {cs : List (Option Value)} {S : List Nat} {sp : Nat → Value → World → Prop} {j : Nat} {ys : Nat → Value} {w : World} (h : GV cs S sp j ys w) (hj : j ∈ S) : sp j (ys j) w := by
  unfold GV at h
  rwa [if_pos hj] at h
theorem GV.ofsp {cs : List (Option Value)} {S : List Nat} {sp : Nat → Value → World → Prop} {j : Nat} {ys : Nat → Value} {w : World} {v : Value} (hj : j ∈ S) (h : sp j v w) : GV cs S sp j (H3.upd ys j v) w := by
  unfold GV
  rw [if_pos hj, H3.upd_same]
  exact h
end Go.Proofs.YtoobjjpheegmdaaGreat.E4
