/-
  THE DOCUMENT'S OWN Fold: THE WALK.
-/
import Derived.Test.YtkckgjanfiiieaaGreatDoorPn10
namespace Go.Proofs.YtkckgjanfiiieaaGreatDoor
open Go.RowKit Go

/-- What Nots leaves. -/
def NotsP (b : Bool) (f : Ft) (w : World) (e : Ending) (w' : World) : Prop := ∃ kv, e = .returned ((Nr.nots b f).val kv) ∧ KsB (fun j => w.heap.size ≤ j) w' kv (Nr.nots b f) ∧ Lay w w'

/-- Nots, of one filter. -/
def NotsOK (f : Ft) : Prop := ∀ (b : Bool) (w : World) (kv : Value), KsAt w kv f → Calls Tryz.prog 20 #[f.val kv, .bool b] w (NotsP b f w)

set_option maxHeartbeats 4000000 in
set_option maxRecDepth 100000 in
theorem nots_const_no (o : Int) (h : o = 1 ∨ o = 2) (a : Option Addr) (c : Nat) (w : World) : Calls Tryz.prog 20 #[.agg #[.int .i64 o, .string Nr.e0, .string Nr.e0, .slice a 0 c], .bool false] w fun e w' => e = .returned (.agg #[.int .i64 o, .string Nr.e0, .string Nr.e0, (.slice a 0 c)]) ∧ Lay w w' := by
  have h6 : (o == 6) = false := beq_eq_false_iff_ne.2 (by omega)
  have h2 : decide (o ≤ 2) = true := decide_eq_true (by omega)
  have h5 : decide (o ≤ 5) = true := decide_eq_true (by omega)
  go_enter Tryz.func20, Tryz.ntmps20
  go_wp2_with fail
  refine bodyPost_ret (v := .agg #[.int .i64 o, .string Nr.e0, .string Nr.e0, (.slice a 0 c)]) (by simp [results, Tryz.results20, go_sem]) rfl ?_
  exact ⟨rfl, ((Keep.refl _ _).alloc _).alloc _⟩

set_option maxHeartbeats 4000000 in
set_option maxRecDepth 100000 in
theorem nots_const_yes (o : Int) (h : o = 1 ∨ o = 2) (a : Option Addr) (c : Nat) (w : World) : Calls Tryz.prog 20 #[.agg #[.int .i64 o, .string Nr.e0, .string Nr.e0, .slice a 0 c], .bool true] w fun e w' => e = .returned (.agg #[.int .i64 (3 - o), .string Nr.e0, .string Nr.e0, (.slice none 0 0)]) ∧ Lay w w' := by
  have h6 : (o == 6) = false := beq_eq_false_iff_ne.2 (by omega)
  have h2 : decide (o ≤ 2) = true := decide_eq_true (by omega)
  go_enter Tryz.func20, Tryz.ntmps20
  go_wp2_with fail
  refine bodyPost_ret (v := .agg #[.int .i64 (3 - o), .string Nr.e0, .string Nr.e0, (.slice none 0 0)]) (by simp [results, Tryz.results20, go_sem]) rfl ?_
  exact ⟨rfl, ((Keep.refl _ _).alloc _).alloc _⟩

set_option maxHeartbeats 4000000 in
set_option maxRecDepth 100000 in
theorem nots_leaf_no (o : Int) (h : o = 3 ∨ o = 4 ∨ o = 5) (n t : ByteArray) (a : Option Addr) (c : Nat) (w : World) : Calls Tryz.prog 20 #[.agg #[.int .i64 o, .string n, .string t, .slice a 0 c], .bool false] w fun e w' => e = .returned (.agg #[.int .i64 o, .string n, .string t, (.slice a 0 c)]) ∧ Lay w w' := by
  have h6 : (o == 6) = false := beq_eq_false_iff_ne.2 (by omega)
  have h2 : decide (o ≤ 2) = false := decide_eq_false (by omega)
  have h5 : decide (o ≤ 5) = true := decide_eq_true (by omega)
  go_enter Tryz.func20, Tryz.ntmps20
  go_wp2_with fail
  refine bodyPost_ret (v := .agg #[.int .i64 o, .string n, .string t, (.slice a 0 c)]) (by simp [results, Tryz.results20, go_sem]) rfl ?_
  exact ⟨rfl, ((Keep.refl _ _).alloc _).alloc _⟩

set_option maxHeartbeats 4000000 in
set_option maxRecDepth 100000 in
theorem nots_leaf_yes (o : Int) (h : o = 3 ∨ o = 4 ∨ o = 5) (n t : ByteArray) (a : Option Addr) (c : Nat) (w : World) : Calls Tryz.prog 20 #[.agg #[.int .i64 o, .string n, .string t, .slice a 0 c], .bool true] w fun e w' => ∃ kv, e = .returned (.agg #[.int .i64 6, .string Nr.e0, .string Nr.e0, kv]) ∧ KsB (fun j => w.heap.size ≤ j) w' kv (.mk 6 Nr.e0 Nr.e0 [.mk o n t []]) ∧ Lay w w' := by
  have h6 : (o == 6) = false := beq_eq_false_iff_ne.2 (by omega)
  have h2 : decide (o ≤ 2) = false := decide_eq_false (by omega)
  have h5 : decide (o ≤ 5) = true := decide_eq_true (by omega)
  go_enter Tryz.func20, Tryz.ntmps20
  go_wp2_with fail
  refine bodyPost_ret (v := .agg #[.int .i64 6, .string Nr.e0, .string Nr.e0, .slice (some ⟨w.heap.size + 2, 0, none⟩) 1 1]) (by simp [results, Tryz.results20, go_sem]) rfl ?_
  refine ⟨_, rfl, ?_, (((Keep.refl _ _).alloc _).alloc _).alloc _⟩
  rw [KsB]
  refine ⟨_, _, rfl, by simp, .inr ⟨w.heap.size + 2, 0, rfl, by omega, by simp, ?_⟩⟩
  rw [KbAt, KbAt]
  exact ⟨⟨.slice a 0 c, by go_simp; rfl, by go_simp; rfl, by go_simp; rfl, by go_simp, ksb_none _ _ _ _ _ _ _⟩, trivial⟩

set_option maxHeartbeats 4000000 in
set_option maxRecDepth 100000 in
theorem nots_six (x : Ft) (b : Bool) (hk : NotsOK x) (a : Option Addr) (c : Nat) (w : World) (hks : KsAt w (.slice a 1 c) (.mk 6 Nr.e0 Nr.e0 [x])) :
    Calls Tryz.prog 20 #[.agg #[.int .i64 6, .string Nr.e0, .string Nr.e0, .slice a 1 c], .bool b] w (NotsP b (.mk 6 Nr.e0 Nr.e0 [x]) w) := by
  have hb0 : Lay w ((w.alloc (.cells #[.int .i64 6, .string Nr.e0, .string Nr.e0, .slice a 1 c] 26)).alloc (.cells #[.int .i64 0, .string ⟨#[]⟩, .string ⟨#[]⟩, .slice none 0 0] 26)) := ((Keep.refl _ _).alloc _).alloc _
  have hbx : Bx ((w.alloc (.cells #[.int .i64 6, .string Nr.e0, .string Nr.e0, .slice a 1 c] 26)).alloc (.cells #[.int .i64 0, .string ⟨#[]⟩, .string ⟨#[]⟩, .slice none 0 0] 26)) (w.heap.size + 1) (.int .i64 0) (.string ⟨#[]⟩) (.string ⟨#[]⟩) (.slice none 0 0) :=
    ⟨by go_simp, by go_simp, by go_simp, by go_simp, by go_simp, by go_simp, by go_simp, by go_simp⟩
  have hk0 := KsAt.below hb0.below _ _ hks
  rw [KsAt] at hk0
  obtain ⟨a', cap, he, hl63, h0 | ⟨bk, off, rfl, hbl, hka⟩⟩ := hk0
  · cases h0
  obtain ⟨rfl, rfl⟩ : a = some ⟨bk, off, none⟩ ∧ c = cap := by simpa using he
  obtain ⟨kv, x0, x1, x2, x3, x4⟩ := KAt.get hka 0 (by simp)
  simp only [Nat.zero_mul, Nat.add_zero, List.getElem_cons_zero] at x0 x1 x2 x3 x4
  obtain ⟨ak, ck, rfl⟩ := x4.shape
  have HD := Lib.hid (hk (!b) _ _ x4)
  have HB0 := Lib.hid hb0
  have HX0 := Lib.hid hbx
  clear hks hk hka hb0 hbx x4 he
  simp only [Ft.val] at HD
  go_enter Tryz.func20, Tryz.ntmps20
  go_wp2_with fail
  refine HD.out.mono ?_
  rintro e w' ⟨kv', rfl, hkb', hl'⟩
  obtain ⟨ak', ck', rfl⟩ := (KsB.at _ _ hkb').shape
  have hbx' := HX0.out.carry (W' := w') (hl'.block (by simp))
  have HX1 := Lib.hid hbx'
  have HKB := Lib.hid hkb'
  have HL := Lib.hid hl'
  clear HX0 HD hkb' hl'
  obtain ⟨c0, c1, c2, c3, f0, f1, f2, f3⟩ := hbx'
  simp only [Ft.val]
  go_wp2_with fail
  have hq := HX1.out.all (.int .i64 (Nr.nots (!b) x).op) (.string (Nr.nots (!b) x).name) (.string (Nr.nots (!b) x).text) (.slice ak' (Nr.nots (!b) x).kids.length ck')
  unfold stored at hq
  obtain ⟨q0, q1, q2, q3, _, _, _, _⟩ := hq
  refine bodyPost_ret (v := .agg #[.int .i64 (Nr.nots (!b) x).op, .string (Nr.nots (!b) x).name, .string (Nr.nots (!b) x).text, .slice ak' (Nr.nots (!b) x).kids.length ck']) (by simp [results, Tryz.results20, go_sem, q0, q1, q2, q3]) rfl ?_
  unfold NotsP
  rw [Nr.nots_not]
  refine ⟨_, rfl, ?_, keep_stored (HB0.out.trans HL.out) (Nat.le_succ _) _ _ _ _⟩
  exact KsB.keep (Nat.le_of_eq (stored_size _ _ _ _).symm) (fun j hj _ => stored_other (by simp at hj; omega) _ _ _ _) _ _ HKB.out |> KsB.mono (fun j _ hj => by simp at hj; omega) _ _

set_option maxHeartbeats 8000000 in
set_option maxRecDepth 100000 in
theorem nots_row_false (o : Int) (ho : o = 7 ∨ o = 8) (k : List Ft) (hl : k.length ≤ 1000) (hk : ∀ x ∈ k, NotsOK x) (a : Option Addr) (c : Nat) (w : World) (hks : KsAt w (.slice a k.length c) (.mk o Nr.e0 Nr.e0 k)) :
    Calls Tryz.prog 20 #[.agg #[.int .i64 o, .string Nr.e0, .string Nr.e0, .slice a k.length c], .bool false] w (NotsP false (.mk o Nr.e0 Nr.e0 k) w) := by
  have h6 : (o == 6) = false := beq_eq_false_iff_ne.2 (by omega)
  have h2 : decide (o ≤ 2) = false := decide_eq_false (by omega)
  have h5 : decide (o ≤ 5) = false := decide_eq_false (by omega)
  obtain ⟨F, hF⟩ : ∃ F, F = w.heap.size + 1 + 1 := ⟨_, rfl⟩
  have HK0 := Lib.hid hks
  have HKK := Lib.hid hk
  obtain ⟨nt, hnt⟩ : ∃ nt, nt = Nr.nots false := ⟨_, rfl⟩
  have HNT := Lib.hid hnt
  clear hks hk hnt
  go_enter Tryz.func20, Tryz.ntmps20
  go_wp2_with fail
  simp only [← hF]
  have hF1 : w.heap.size + 2 ≤ F := by omega
  have hF2 : F ≤ w.heap.size + 2 := by omega
  clear hF
  go_loopw [52] (fun vi wr => ∃ (R : List (Value × Ft)) (u : Value), vi = .int .i64 (R.length : Nat) ∧ R.length ≤ k.length ∧ R.map (·.2) = (k.take R.length).map nt ∧ Rk 4 (fun j => F + 1 ≤ j) wr u R.length (flatK R) ∧ (∀ p ∈ R, KsB (fun j => F + 1 ≤ j ∧ ¬ At u j) wr p.1 p.2) ∧
    Lay w wr ∧ Bx wr (w.heap.size + 1) (.int .i64 0) (.string ⟨#[]⟩) (.string ⟨#[]⟩) (.slice none 0 0) ∧ Bx wr F (.int .i64 o) (.string ⟨#[]⟩) (.string ⟨#[]⟩) u ∧ F + 1 ≤ wr.heap.size) (fun vi _ => k.length - (intOf vi).toNat)
  case atStart =>
    refine ⟨[], .slice none 0 0, rfl, Nat.zero_le _, rfl, Rk.nil 4 _ _, fun p hp => by simp at hp, (((Keep.refl _ _).alloc _).alloc _).alloc _, ⟨by go_simp, by go_simp, by go_simp, by go_simp, by go_simp, by go_simp, by go_simp, by go_simp⟩, ?_, by simp; omega⟩
    obtain rfl : F = w.heap.size + 1 + 1 := by omega
    exact ⟨by go_simp, by go_simp, by go_simp, by go_simp, by go_simp, by go_simp, by go_simp, by go_simp⟩
  case round =>
    obtain ⟨R, u, rfl, hm, hmap, hrk, hkb, hlay, hbx, hbf, hwr⟩ := hrel
    obtain ⟨au, cu, rfl⟩ := hrk.shape
    have HMAP := Lib.hid hmap
    have HRK := Lib.hid hrk
    have HKB := Lib.hid hkb
    have HKP := Lib.hid hlay
    have HBX := Lib.hid hbx
    have HBF := Lib.hid hbf
    have hrn : R.length ≤ 1000 := by omega
    clear hmap hrk hkb hbx
    by_cases hlt : R.length < k.length
    · have hks := KsAt.below hlay.below _ _ HK0.out
      rw [KsAt] at hks
      obtain ⟨a', cap, he, _, h0 | ⟨bb, off, rfl, hbl, hka⟩⟩ := hks
      · exact absurd hlt (by rw [h0]; simp)
      obtain ⟨rfl, rfl⟩ : a = some ⟨bb, off, none⟩ ∧ c = cap := by simpa using he
      obtain ⟨kv, x0, x1, x2, x3, x4⟩ := KAt.get hka R.length hlt
      have HTK : Hid ((k.take (R.length + 1)).map nt = (k.take R.length).map nt ++ [nt k[R.length]]) := Lib.hid (by rw [List.take_succ_eq_append_getElem hlt, List.map_append, List.map_cons, List.map_nil])
      have hkid := HKK.out _ (List.getElem_mem hlt)
      generalize k[R.length] = x at x0 x1 x2 x3 x4 HTK hkid
      obtain ⟨ak, ck, rfl⟩ := x4.shape
      have hl6 : Lay wr (wr.alloc (.cells #[.int .i64 x.op, .string x.name, .string x.text, .slice ak x.kids.length ck] 26)).drew := ((Keep.refl _ _).alloc _).drew
      have hc := hkid false _ _ (KsAt.below hl6.below _ _ x4)
      unfold NotsP at hc
      rw [← HNT.out] at hc
      obtain ⟨X, hX⟩ : ∃ X, X = nt x := ⟨_, rfl⟩
      rw [← hX] at hc HTK
      have HC := Lib.hid hc
      have HL6 := Lib.hid hl6
      clear hlay he hka x4 hkid hl6 hc hX
      simp only [Ft.val] at HC
      have hFw : F < wr.heap.size := by omega
      have hne5 : ¬ F = wr.heap.size := by omega
      have hbf5 := hbf.carry (W' := wr.alloc (.cells #[.int .i64 x.op, .string x.name, .string x.text, .slice ak x.kids.length ck] 26)) (Below.heap_alloc _ _ _ hFw)
      obtain ⟨z0, z1, z2, z3, y0', y1', y2', y3'⟩ := hbf
      obtain ⟨s0, s1, s2, s3, s4, s5, s6, s7⟩ := hbf5
      go_wp2_with fail
      go_region_law (first | (refine step_append_run rfl _ _ _ rfl rfl rfl hrun ?_) | (go_simp; go_at_call 20; refine HC.out.mono ?_; rintro e6 w6 ⟨kv, rfl, hkb6, hl6⟩; obtain ⟨ak6, ck6, rfl⟩ := (KsB.at _ _ hkb6).shape; simp only; have hkp6 : Lay wr w6 := HL6.out.trans hl6; have hbf6 := HBF.out.carry (W' := w6) (hkp6.block (by omega)); have hrk6 := HRK.out.carry (w' := w6) hkp6.size (fun b hb _ hlt => hkp6.block hlt); have hs6 : F + 1 ≤ w6.heap.size := Nat.le_trans hwr hkp6.size; have hlt6 : F < w6.heap.size := (by omega); have hne6 : ¬ F = w6.heap.size := (by omega); obtain ⟨a7, c7, w7, hrun, hrk7, hk7⟩ := app_kid hrk6 hs6 hrn (.slice ak6 X.kids.length ck6, X) rfl; have hbf7 := hbf6.carry (W' := w7) ((hk7.block F (by simp <;> omega) (fun ha => by have := (hrk6.at ha).1; omega)).trans (Below.heap_alloc _ _ _ (by omega))); obtain ⟨y0, y1, y2, y3, p0, p1', p2', p3'⟩ := id hbf6; obtain ⟨q0, q1, q2, q3, r0, r1, r2, r3⟩ := id hbf7))
      all_goals
        have hsz7 : w6.heap.size + 1 ≤ w7.heap.size := by have h1 := hk7.size; simp at h1; omega
        have hw6 : wr.heap.size ≤ w6.heap.size := hkp6.size
        have hR7 : w7.heap[w.heap.size + 1]? = w6.heap[w.heap.size + 1]? := (hk7.block _ (by simp <;> omega) (fun ha => by have := (hrk6.at ha).1; omega)).trans (Below.heap_alloc _ _ _ (by omega))
        have hoth7 : ∀ b, b < w6.heap.size → ¬ At (.slice au R.length cu) b → w7.heap[b]? = w6.heap[b]? := fun b hb ha => (hk7.block b (by simp <;> omega) ha).trans (Below.heap_alloc _ _ _ hb)
        have hset : ∀ b, b ≠ F → (w7.setCell ⟨F, 3, none⟩ (.slice a7 (R.length + 1) c7)).heap[b]? = w7.heap[b]? := fun b hb => Below.heap_setCell w7 ⟨F, 3, none⟩ _ b hb
        have hss : (w7.setCell ⟨F, 3, none⟩ (.slice a7 (R.length + 1) c7)).heap.size = w7.heap.size := by simp [World.setCell]
        have hatu : ∀ b, At (.slice au R.length cu) b → b < wr.heap.size := fun b ha => (HRK.out.at ha).2
        have hat7 : ∀ b, At (.slice a7 (R.length + 1) c7) b → At (.slice au R.length cu) b ∨ w6.heap.size + 1 ≤ b := fun b ha => (hrk7.at ha).1.2
        have HRK8 := Lib.hid ((hrk7.mono (G' := fun b => F + 1 ≤ b) fun b hb _ => hb.1).carry (w' := w7.setCell ⟨F, 3, none⟩ (.slice a7 (R.length + 1) c7)) (Nat.le_of_eq hss.symm) fun b hb _ _ => hset b (by omega))
        have hkeep : ∀ b, F + 1 ≤ b → ¬ At (.slice au R.length cu) b → b < w6.heap.size → (w7.setCell ⟨F, 3, none⟩ (.slice a7 (R.length + 1) c7)).heap[b]? = w6.heap[b]? := fun b hb ha hlt => (hset b (by omega)).trans (hoth7 b hlt ha)
        have hold : ∀ b, b < wr.heap.size → w6.heap[b]? = wr.heap[b]? := fun b hlt => hkp6.block hlt
        have HKB8 : Hid (∀ p ∈ R ++ [((.slice ak6 X.kids.length ck6 : Value), X)], KsB (fun b => F + 1 ≤ b ∧ ¬ At (.slice a7 (R.length + 1) c7) b) (w7.setCell ⟨F, 3, none⟩ (.slice a7 (R.length + 1) c7)) p.1 p.2) := Lib.hid (by
          intro p hp
          rw [List.mem_append, List.mem_singleton] at hp
          rcases hp with hp | rfl
          · refine KsB.mono (G := fun b => F + 1 ≤ b ∧ ¬ At (.slice au R.length cu) b ∧ ¬ At (.slice a7 (R.length + 1) c7) b) (fun b _ hb => ⟨hb.1, hb.2.2⟩) _ _ (KsB.keep (by rw [hss]; omega) (fun b hb hlt => (hkeep b hb.1 hb.2.1 (by omega)).trans (hold b hlt)) _ _ (KsB.mono (fun b hlt hb => ⟨hb.1, hb.2, fun ha => ?_⟩) _ _ (HKB.out p hp)))
            rcases hat7 b ha with h | h
            · exact hb.2 h
            · omega
          · refine KsB.mono (G := fun b => F + 1 ≤ b ∧ ¬ At (.slice au R.length cu) b ∧ ¬ At (.slice a7 (R.length + 1) c7) b) (fun b _ hb => ⟨hb.1, hb.2.2⟩) _ _ (KsB.keep (by rw [hss]; omega) (fun b hb hlt => hkeep b hb.1 hb.2.1 hlt) _ _ (KsB.mono (fun b hlt hb => ?_) _ _ hkb6))
            have hb' : wr.heap.size ≤ b := Nat.le_trans HL6.out.size hb
            have hnu : ¬ At (.slice au R.length cu) b := fun ha => by have := hatu b ha; omega
            refine ⟨by omega, hnu, fun ha => ?_⟩
            rcases hat7 b ha with h | h
            · exact hnu h
            · omega)
        have HKP8 : Hid (Lay w (w7.setCell ⟨F, 3, none⟩ (.slice a7 (R.length + 1) c7))) := Lib.hid ((((HKP.out.trans hkp6).alloc _).over hk7 (fun b ha => by have := (hrk6.at ha).1; omega)).setCell (p := ⟨F, 3, none⟩) (.inl (by show w.heap.size ≤ F; omega)) (.slice a7 (R.length + 1) c7))
        have HBX8 := Lib.hid (HBX.out.carry (W' := w7.setCell ⟨F, 3, none⟩ (.slice a7 (R.length + 1) c7)) (((hset (w.heap.size + 1) (by omega)).trans hR7).trans (hkp6.block (by omega))))
        have HBF8 := Lib.hid (hbf7.set3 (.slice a7 (R.length + 1) c7))
        have HZ8 : Hid (F + 1 ≤ (w7.setCell ⟨F, 3, none⟩ (.slice a7 (R.length + 1) c7)).heap.size) := Lib.hid (by rw [hss]; omega)
        clear hsz7 hR7 hoth7 hset hss hw6 hatu hat7 hkeep hold hkb6 hl6 hkp6 hbf6 hrk6 hrk7 hk7 hbf7 hrun
        go_wp2_with fail
        go_roundw
        case rel =>
          refine ⟨R ++ [((.slice ak6 X.kids.length ck6 : Value), X)], .slice a7 (R.length + 1) c7, by rw [List.length_append, List.length_singleton]; go_num, by rw [List.length_append, List.length_singleton]; omega, ?_, HRK8.out, HKB8.out, HKP8.out, HBX8.out, HBF8.out, HZ8.out⟩
          rw [List.map_append, List.length_append, List.length_singleton, HTK.out, HMAP.out]
          rfl
        case measure => simp [intOf] <;> omega
    · have HRL : Hid (R.length = k.length) := Lib.hid (by omega)
      obtain ⟨c0, c1, c2, c3, f0, f1, f2, f3⟩ := HBX.out
      obtain ⟨b0, b1, b2, b3, _, _, _, _⟩ := hbf
      go_wp2_with fail
      have hq := HBX.out.all (.int .i64 o) (.string ⟨#[]⟩) (.string ⟨#[]⟩) (.slice au R.length cu)
      unfold stored at hq
      obtain ⟨q0, q1, q2, q3, _, _, _, _⟩ := hq
      refine bodyPost_ret (v := .agg #[.int .i64 o, .string ⟨#[]⟩, .string ⟨#[]⟩, .slice au R.length cu]) (by simp [results, Tryz.results20, go_sem, q0, q1, q2, q3]) rfl ?_
      have hmap := HMAP.out
      rw [HRL.out, List.take_length, HNT.out] at hmap
      unfold NotsP
      rw [Nr.nots_row false o k ho, ← hmap]
      refine ⟨_, rfl, ?_, keep_stored HKP.out (Nat.le_succ _) _ _ _ _⟩
      have hoth : ∀ b, F + 1 ≤ b → (stored wr (w.heap.size + 1) (.int .i64 o) (.string ⟨#[]⟩) (.string ⟨#[]⟩) (.slice au R.length cu)).heap[b]? = wr.heap[b]? := fun b hb => stored_other (by omega) _ _ _ _
      have hs : wr.heap.size ≤ (stored wr (w.heap.size + 1) (.int .i64 o) (.string ⟨#[]⟩) (.string ⟨#[]⟩) (.slice au R.length cu)).heap.size := Nat.le_of_eq (stored_size _ _ _ _).symm
      exact KsB.mono (fun b _ hb => by have hb1 : F + 1 ≤ b := hb; omega) _ _ (KsB.of_rk (G0 := fun b => F + 1 ≤ b) (fun b hb => hb) (HRK.out.carry hs fun b hb _ _ => hoth b hb) (fun p hp => KsB.mono (fun b _ hb => hb.1) _ _ (KsB.keep hs (fun b hb _ => hoth b hb.1) _ _ (HKB.out p hp))) hrn _ _ _)

set_option maxHeartbeats 8000000 in
set_option maxRecDepth 100000 in
theorem nots_row_true (o : Int) (ho : o = 7 ∨ o = 8) (k : List Ft) (hl : k.length ≤ 1000) (hk : ∀ x ∈ k, NotsOK x) (a : Option Addr) (c : Nat) (w : World) (hks : KsAt w (.slice a k.length c) (.mk o Nr.e0 Nr.e0 k)) :
    Calls Tryz.prog 20 #[.agg #[.int .i64 o, .string Nr.e0, .string Nr.e0, .slice a k.length c], .bool true] w (NotsP true (.mk o Nr.e0 Nr.e0 k) w) := by
  have h6 : (o == 6) = false := beq_eq_false_iff_ne.2 (by omega)
  have h2 : decide (o ≤ 2) = false := decide_eq_false (by omega)
  have h5 : decide (o ≤ 5) = false := decide_eq_false (by omega)
  obtain ⟨F, hF⟩ : ∃ F, F = w.heap.size + 1 + 1 := ⟨_, rfl⟩
  have HK0 := Lib.hid hks
  have HKK := Lib.hid hk
  obtain ⟨nt, hnt⟩ : ∃ nt, nt = Nr.nots true := ⟨_, rfl⟩
  have HNT := Lib.hid hnt
  clear hks hk hnt
  go_enter Tryz.func20, Tryz.ntmps20
  go_wp2_with fail
  simp only [← hF]
  have hF1 : w.heap.size + 2 ≤ F := by omega
  have hF2 : F ≤ w.heap.size + 2 := by omega
  clear hF
  go_loopw [52] (fun vi wr => ∃ (R : List (Value × Ft)) (u : Value), vi = .int .i64 (R.length : Nat) ∧ R.length ≤ k.length ∧ R.map (·.2) = (k.take R.length).map nt ∧ Rk 4 (fun j => F + 1 ≤ j) wr u R.length (flatK R) ∧ (∀ p ∈ R, KsB (fun j => F + 1 ≤ j ∧ ¬ At u j) wr p.1 p.2) ∧
    Lay w wr ∧ Bx wr (w.heap.size + 1) (.int .i64 0) (.string ⟨#[]⟩) (.string ⟨#[]⟩) (.slice none 0 0) ∧ Bx wr F (.int .i64 (15 - o)) (.string ⟨#[]⟩) (.string ⟨#[]⟩) u ∧ F + 1 ≤ wr.heap.size) (fun vi _ => k.length - (intOf vi).toNat)
  case atStart =>
    refine ⟨[], .slice none 0 0, rfl, Nat.zero_le _, rfl, Rk.nil 4 _ _, fun p hp => by simp at hp, (((Keep.refl _ _).alloc _).alloc _).alloc _, ⟨by go_simp, by go_simp, by go_simp, by go_simp, by go_simp, by go_simp, by go_simp, by go_simp⟩, ?_, by simp; omega⟩
    obtain rfl : F = w.heap.size + 1 + 1 := by omega
    exact ⟨by go_simp, by go_simp, by go_simp, by go_simp, by go_simp, by go_simp, by go_simp, by go_simp⟩
  case round =>
    obtain ⟨R, u, rfl, hm, hmap, hrk, hkb, hlay, hbx, hbf, hwr⟩ := hrel
    obtain ⟨au, cu, rfl⟩ := hrk.shape
    have HMAP := Lib.hid hmap
    have HRK := Lib.hid hrk
    have HKB := Lib.hid hkb
    have HKP := Lib.hid hlay
    have HBX := Lib.hid hbx
    have HBF := Lib.hid hbf
    have hrn : R.length ≤ 1000 := by omega
    clear hmap hrk hkb hbx
    by_cases hlt : R.length < k.length
    · have hks := KsAt.below hlay.below _ _ HK0.out
      rw [KsAt] at hks
      obtain ⟨a', cap, he, _, h0 | ⟨bb, off, rfl, hbl, hka⟩⟩ := hks
      · exact absurd hlt (by rw [h0]; simp)
      obtain ⟨rfl, rfl⟩ : a = some ⟨bb, off, none⟩ ∧ c = cap := by simpa using he
      obtain ⟨kv, x0, x1, x2, x3, x4⟩ := KAt.get hka R.length hlt
      have HTK : Hid ((k.take (R.length + 1)).map nt = (k.take R.length).map nt ++ [nt k[R.length]]) := Lib.hid (by rw [List.take_succ_eq_append_getElem hlt, List.map_append, List.map_cons, List.map_nil])
      have hkid := HKK.out _ (List.getElem_mem hlt)
      generalize k[R.length] = x at x0 x1 x2 x3 x4 HTK hkid
      obtain ⟨ak, ck, rfl⟩ := x4.shape
      have hl6 : Lay wr (wr.alloc (.cells #[.int .i64 x.op, .string x.name, .string x.text, .slice ak x.kids.length ck] 26)).drew := ((Keep.refl _ _).alloc _).drew
      have hc := hkid true _ _ (KsAt.below hl6.below _ _ x4)
      unfold NotsP at hc
      rw [← HNT.out] at hc
      obtain ⟨X, hX⟩ : ∃ X, X = nt x := ⟨_, rfl⟩
      rw [← hX] at hc HTK
      have HC := Lib.hid hc
      have HL6 := Lib.hid hl6
      clear hlay he hka x4 hkid hl6 hc hX
      simp only [Ft.val] at HC
      have hFw : F < wr.heap.size := by omega
      have hne5 : ¬ F = wr.heap.size := by omega
      have hbf5 := hbf.carry (W' := wr.alloc (.cells #[.int .i64 x.op, .string x.name, .string x.text, .slice ak x.kids.length ck] 26)) (Below.heap_alloc _ _ _ hFw)
      obtain ⟨z0, z1, z2, z3, y0', y1', y2', y3'⟩ := hbf
      obtain ⟨s0, s1, s2, s3, s4, s5, s6, s7⟩ := hbf5
      go_wp2_with fail
      go_region_law (first | (refine step_append_run rfl _ _ _ rfl rfl rfl hrun ?_) | (go_simp; go_at_call 20; refine HC.out.mono ?_; rintro e6 w6 ⟨kv, rfl, hkb6, hl6⟩; obtain ⟨ak6, ck6, rfl⟩ := (KsB.at _ _ hkb6).shape; simp only; have hkp6 : Lay wr w6 := HL6.out.trans hl6; have hbf6 := HBF.out.carry (W' := w6) (hkp6.block (by omega)); have hrk6 := HRK.out.carry (w' := w6) hkp6.size (fun b hb _ hlt => hkp6.block hlt); have hs6 : F + 1 ≤ w6.heap.size := Nat.le_trans hwr hkp6.size; have hlt6 : F < w6.heap.size := (by omega); have hne6 : ¬ F = w6.heap.size := (by omega); obtain ⟨a7, c7, w7, hrun, hrk7, hk7⟩ := app_kid hrk6 hs6 hrn (.slice ak6 X.kids.length ck6, X) rfl; have hbf7 := hbf6.carry (W' := w7) ((hk7.block F (by simp <;> omega) (fun ha => by have := (hrk6.at ha).1; omega)).trans (Below.heap_alloc _ _ _ (by omega))); obtain ⟨y0, y1, y2, y3, p0, p1', p2', p3'⟩ := id hbf6; obtain ⟨q0, q1, q2, q3, r0, r1, r2, r3⟩ := id hbf7))
      all_goals
        have hsz7 : w6.heap.size + 1 ≤ w7.heap.size := by have h1 := hk7.size; simp at h1; omega
        have hw6 : wr.heap.size ≤ w6.heap.size := hkp6.size
        have hR7 : w7.heap[w.heap.size + 1]? = w6.heap[w.heap.size + 1]? := (hk7.block _ (by simp <;> omega) (fun ha => by have := (hrk6.at ha).1; omega)).trans (Below.heap_alloc _ _ _ (by omega))
        have hoth7 : ∀ b, b < w6.heap.size → ¬ At (.slice au R.length cu) b → w7.heap[b]? = w6.heap[b]? := fun b hb ha => (hk7.block b (by simp <;> omega) ha).trans (Below.heap_alloc _ _ _ hb)
        have hset : ∀ b, b ≠ F → (w7.setCell ⟨F, 3, none⟩ (.slice a7 (R.length + 1) c7)).heap[b]? = w7.heap[b]? := fun b hb => Below.heap_setCell w7 ⟨F, 3, none⟩ _ b hb
        have hss : (w7.setCell ⟨F, 3, none⟩ (.slice a7 (R.length + 1) c7)).heap.size = w7.heap.size := by simp [World.setCell]
        have hatu : ∀ b, At (.slice au R.length cu) b → b < wr.heap.size := fun b ha => (HRK.out.at ha).2
        have hat7 : ∀ b, At (.slice a7 (R.length + 1) c7) b → At (.slice au R.length cu) b ∨ w6.heap.size + 1 ≤ b := fun b ha => (hrk7.at ha).1.2
        have HRK8 := Lib.hid ((hrk7.mono (G' := fun b => F + 1 ≤ b) fun b hb _ => hb.1).carry (w' := w7.setCell ⟨F, 3, none⟩ (.slice a7 (R.length + 1) c7)) (Nat.le_of_eq hss.symm) fun b hb _ _ => hset b (by omega))
        have hkeep : ∀ b, F + 1 ≤ b → ¬ At (.slice au R.length cu) b → b < w6.heap.size → (w7.setCell ⟨F, 3, none⟩ (.slice a7 (R.length + 1) c7)).heap[b]? = w6.heap[b]? := fun b hb ha hlt => (hset b (by omega)).trans (hoth7 b hlt ha)
        have hold : ∀ b, b < wr.heap.size → w6.heap[b]? = wr.heap[b]? := fun b hlt => hkp6.block hlt
        have HKB8 : Hid (∀ p ∈ R ++ [((.slice ak6 X.kids.length ck6 : Value), X)], KsB (fun b => F + 1 ≤ b ∧ ¬ At (.slice a7 (R.length + 1) c7) b) (w7.setCell ⟨F, 3, none⟩ (.slice a7 (R.length + 1) c7)) p.1 p.2) := Lib.hid (by
          intro p hp
          rw [List.mem_append, List.mem_singleton] at hp
          rcases hp with hp | rfl
          · refine KsB.mono (G := fun b => F + 1 ≤ b ∧ ¬ At (.slice au R.length cu) b ∧ ¬ At (.slice a7 (R.length + 1) c7) b) (fun b _ hb => ⟨hb.1, hb.2.2⟩) _ _ (KsB.keep (by rw [hss]; omega) (fun b hb hlt => (hkeep b hb.1 hb.2.1 (by omega)).trans (hold b hlt)) _ _ (KsB.mono (fun b hlt hb => ⟨hb.1, hb.2, fun ha => ?_⟩) _ _ (HKB.out p hp)))
            rcases hat7 b ha with h | h
            · exact hb.2 h
            · omega
          · refine KsB.mono (G := fun b => F + 1 ≤ b ∧ ¬ At (.slice au R.length cu) b ∧ ¬ At (.slice a7 (R.length + 1) c7) b) (fun b _ hb => ⟨hb.1, hb.2.2⟩) _ _ (KsB.keep (by rw [hss]; omega) (fun b hb hlt => hkeep b hb.1 hb.2.1 hlt) _ _ (KsB.mono (fun b hlt hb => ?_) _ _ hkb6))
            have hb' : wr.heap.size ≤ b := Nat.le_trans HL6.out.size hb
            have hnu : ¬ At (.slice au R.length cu) b := fun ha => by have := hatu b ha; omega
            refine ⟨by omega, hnu, fun ha => ?_⟩
            rcases hat7 b ha with h | h
            · exact hnu h
            · omega)
        have HKP8 : Hid (Lay w (w7.setCell ⟨F, 3, none⟩ (.slice a7 (R.length + 1) c7))) := Lib.hid ((((HKP.out.trans hkp6).alloc _).over hk7 (fun b ha => by have := (hrk6.at ha).1; omega)).setCell (p := ⟨F, 3, none⟩) (.inl (by show w.heap.size ≤ F; omega)) (.slice a7 (R.length + 1) c7))
        have HBX8 := Lib.hid (HBX.out.carry (W' := w7.setCell ⟨F, 3, none⟩ (.slice a7 (R.length + 1) c7)) (((hset (w.heap.size + 1) (by omega)).trans hR7).trans (hkp6.block (by omega))))
        have HBF8 := Lib.hid (hbf7.set3 (.slice a7 (R.length + 1) c7))
        have HZ8 : Hid (F + 1 ≤ (w7.setCell ⟨F, 3, none⟩ (.slice a7 (R.length + 1) c7)).heap.size) := Lib.hid (by rw [hss]; omega)
        clear hsz7 hR7 hoth7 hset hss hw6 hatu hat7 hkeep hold hkb6 hl6 hkp6 hbf6 hrk6 hrk7 hk7 hbf7 hrun
        go_wp2_with fail
        go_roundw
        case rel =>
          refine ⟨R ++ [((.slice ak6 X.kids.length ck6 : Value), X)], .slice a7 (R.length + 1) c7, by rw [List.length_append, List.length_singleton]; go_num, by rw [List.length_append, List.length_singleton]; omega, ?_, HRK8.out, HKB8.out, HKP8.out, HBX8.out, HBF8.out, HZ8.out⟩
          rw [List.map_append, List.length_append, List.length_singleton, HTK.out, HMAP.out]
          rfl
        case measure => simp [intOf] <;> omega
    · have HRL : Hid (R.length = k.length) := Lib.hid (by omega)
      obtain ⟨c0, c1, c2, c3, f0, f1, f2, f3⟩ := HBX.out
      obtain ⟨b0, b1, b2, b3, _, _, _, _⟩ := hbf
      go_wp2_with fail
      have hq := HBX.out.all (.int .i64 (15 - o)) (.string ⟨#[]⟩) (.string ⟨#[]⟩) (.slice au R.length cu)
      unfold stored at hq
      obtain ⟨q0, q1, q2, q3, _, _, _, _⟩ := hq
      refine bodyPost_ret (v := .agg #[.int .i64 (15 - o), .string ⟨#[]⟩, .string ⟨#[]⟩, .slice au R.length cu]) (by simp [results, Tryz.results20, go_sem, q0, q1, q2, q3]) rfl ?_
      have hmap := HMAP.out
      rw [HRL.out, List.take_length, HNT.out] at hmap
      unfold NotsP
      rw [Nr.nots_row true o k ho, ← hmap]
      refine ⟨_, rfl, ?_, keep_stored HKP.out (Nat.le_succ _) _ _ _ _⟩
      have hoth : ∀ b, F + 1 ≤ b → (stored wr (w.heap.size + 1) (.int .i64 (15 - o)) (.string ⟨#[]⟩) (.string ⟨#[]⟩) (.slice au R.length cu)).heap[b]? = wr.heap[b]? := fun b hb => stored_other (by omega) _ _ _ _
      have hs : wr.heap.size ≤ (stored wr (w.heap.size + 1) (.int .i64 (15 - o)) (.string ⟨#[]⟩) (.string ⟨#[]⟩) (.slice au R.length cu)).heap.size := Nat.le_of_eq (stored_size _ _ _ _).symm
      exact KsB.mono (fun b _ hb => by have hb1 : F + 1 ≤ b := hb; omega) _ _ (KsB.of_rk (G0 := fun b => F + 1 ≤ b) (fun b hb => hb) (HRK.out.carry hs fun b hb _ _ => hoth b hb) (fun p hp => KsB.mono (fun b _ hb => hb.1) _ _ (KsB.keep hs (fun b hb _ => hoth b hb.1) _ _ (HKB.out p hp))) hrn _ _ _)

theorem nots_any {f : Ft} (h : Nr.Gd f) : f.count ≤ 1000 → NotsOK f := by
  induction h with
  | const o h =>
    intro _ b w kv hks
    obtain ⟨a, c, rfl⟩ := hks.shape
    cases b
    · refine (nots_const_no o h a c w).mono ?_
      rintro e w' ⟨rfl, hl⟩
      unfold NotsP
      rw [Nr.nots_const _ o h]
      exact ⟨.slice a 0 c, rfl, ksb_none _ _ _ _ _ _ _, hl⟩
    · refine (nots_const_yes o h a c w).mono ?_
      rintro e w' ⟨rfl, hl⟩
      unfold NotsP
      rw [Nr.nots_const _ o h]
      exact ⟨.slice none 0 0, rfl, ksb_none _ _ _ _ _ _ _, hl⟩
  | leaf o n t h =>
    intro _ b w kv hks
    obtain ⟨a, c, rfl⟩ := hks.shape
    cases b
    · refine (nots_leaf_no o h n t a c w).mono ?_
      rintro e w' ⟨rfl, hl⟩
      unfold NotsP
      rw [Nr.nots_leaf _ o n t h]
      exact ⟨.slice a 0 c, rfl, ksb_none _ _ _ _ _ _ _, hl⟩
    · refine (nots_leaf_yes o h n t a c w).mono ?_
      rintro e w' ⟨kv, rfl, hk, hl⟩
      unfold NotsP
      rw [Nr.nots_leaf _ o n t h]
      exact ⟨kv, rfl, hk, hl⟩
  | not x _ ih =>
    intro hc b w kv hks
    obtain ⟨a, c, rfl⟩ := hks.shape
    rw [Ft.count, Ft.counts, Ft.counts] at hc
    exact nots_six x b (ih (by omega)) a c w hks
  | row o k h h2 _ ih =>
    intro hc b w kv hks
    obtain ⟨a, c, rfl⟩ := hks.shape
    rw [Ft.count] at hc
    have hl := counts_len k
    have hk : ∀ x ∈ k, NotsOK x := fun x hx => ih x hx (by have := counts_in hx; omega)
    cases b
    · exact nots_row_false o h k (by omega) hk a c w hks
    · exact nots_row_true o h k (by omega) hk a c w hks
end Go.Proofs.YtkckgjanfiiieaaGreatDoor

namespace Go.Proofs.YtkckgjanfiiieaaGreatDoor
open Go.RowKit Go

/-- What Fold leaves. -/
def FoldP (G : Nat → Prop) (f : Ft) (w : World) (e : Ending) (w' : World) : Prop := ∃ kv, e = .returned ((Nr.fold f).val kv) ∧ KsB (fun j => G j ∨ w.heap.size ≤ j) w' kv (Nr.fold f) ∧ Lay w w'

/-- Fold, of one filter. -/
def FoldOK (f : Ft) : Prop := ∀ (G : Nat → Prop) (w : World) (kv : Value), KsB G w kv f → Calls Tryz.prog 19 #[f.val kv] w (FoldP G f w)

theorem foldRow_hitR {o : Int} {k : List Ft} {i : Nat} (h : i < k.length) (hno : ∀ x ∈ k.take i, (Nr.fold x).op ≠ Nr.counts o) (hX : (Nr.fold k[i]).op = Nr.counts o) : Nr.foldRow o (k.map Nr.fold) = Nr.fold k[i] := by
  have key : ∀ (p q : List Ft) (x : Ft), (∀ y ∈ p, (Nr.fold y).op ≠ Nr.counts o) → (Nr.fold x).op = Nr.counts o → ((p ++ x :: q).map Nr.fold).find? (fun x => decide (x.op = Nr.counts o)) = some (Nr.fold x) := fun p q x h1 h2 => by
    rw [List.find?_map, List.find?_append]
    rw [show List.find? ((fun x => decide (x.op = Nr.counts o)) ∘ Nr.fold) p = none from List.find?_eq_none.2 fun x hx => by simpa using h1 x hx]
    rw [Option.none_or, List.find?_cons_of_pos (by simpa using h2)]
    rfl
  have hs := key (k.take i) (k.drop (i + 1)) k[i] hno hX
  rw [← List.drop_eq_getElem_cons h, List.take_append_drop] at hs
  unfold Nr.foldRow
  rw [hs]

theorem foldRow_noneR {o : Int} {k : List Ft} (hno : ∀ x ∈ k, (Nr.fold x).op ≠ Nr.counts o) : Nr.foldRow o (k.map Nr.fold) = rowOf o ((k.map Nr.fold).flatMap (Nr.part o)) := by
  unfold Nr.foldRow
  rw [List.find?_eq_none.2 (fun x hx => by
    obtain ⟨y, hy, rfl⟩ := List.mem_map.1 hx
    simpa using hno y hy)]
  simp only
  split <;> rename_i h <;> rw [h] <;> rfl

theorem parts_lenR {o : Int} {k : List Ft} (hn : ∀ x ∈ k, (Nr.fold x).count ≤ x.count) (i : Nat) : (((k.take i).map Nr.fold).flatMap (Nr.part o)).length ≤ Ft.counts k := by
  have h1 := counts_len (((k.take i).map Nr.fold).flatMap (Nr.part o))
  have h2 := Nr.parts_count o ((k.take i).map Nr.fold)
  have h3 := Nr.counts_map_le (g := Nr.fold) (c := 1) (k := k.take i) (fun x hx => by rw [Nat.one_mul]; exact hn x (List.mem_of_mem_take hx))
  have h4 := counts_take k i
  omega

end Go.Proofs.YtkckgjanfiiieaaGreatDoor

namespace Go.Proofs.YtkckgjanfiiieaaGreatDoor
open Go.RowKit Go

set_option maxHeartbeats 8000000 in
set_option maxRecDepth 100000 in
theorem fold_row_7 (k : List Ft) (hl : Ft.counts k ≤ 1000) (hn : ∀ x ∈ k, (Nr.fold x).count ≤ x.count) (hk : ∀ x ∈ k, FoldOK x) (G : Nat → Prop) (a : Option Addr) (c : Nat) (w : World) (hks : KsB G w (.slice a k.length c) (.mk 7 Nr.e0 Nr.e0 k)) :
    Calls Tryz.prog 19 #[.agg #[.int .i64 7, .string Nr.e0, .string Nr.e0, .slice a k.length c]] w (FoldP G (.mk 7 Nr.e0 Nr.e0 k) w) := by
  have hkl := counts_len k
  obtain ⟨i26, z26, E26⟩ := elem26
  obtain ⟨B, hB⟩ : ∃ B, B = w.heap.size + 2 := ⟨_, rfl⟩
  obtain ⟨pp, hpp⟩ : ∃ pp : Nat → List Ft, pp = fun i => ((k.take i).map Nr.fold).flatMap (Nr.part 7) := ⟨_, rfl⟩
  have hpl : ∀ i, (pp i).length ≤ 1000 := fun i => by rw [hpp]; exact Nat.le_trans (parts_lenR hn i) hl
  have hp0 : pp 0 = [] := by rw [hpp]; rfl
  have hps : ∀ i (h : i < k.length), pp (i + 1) = pp i ++ Nr.part 7 (Nr.fold k[i]) := fun i h => by
    rw [hpp]
    simp only
    rw [List.take_succ_eq_append_getElem h, List.map_append, List.flatMap_append, List.map_cons, List.map_nil, List.flatMap_cons, List.flatMap_nil, List.append_nil]
  have hpe : pp k.length = (k.map Nr.fold).flatMap (Nr.part 7) := by rw [hpp]; simp only; rw [List.take_length]
  have HPL := Lib.hid hpl
  have HP0 := Lib.hid hp0
  have HPS := Lib.hid hps
  have HPE := Lib.hid hpe
  have HK0 := Lib.hid (KsB.mono (G' := fun j => G j ∧ j < w.heap.size) (fun j hj h => ⟨h, hj⟩) _ _ hks)
  have HKK := Lib.hid hk
  clear hpp hpl hp0 hps hpe hks hk hn
  have HB := Lib.hid hB
  have hB1 : w.heap.size + 2 ≤ B := by omega
  have hB2 : B ≤ w.heap.size + 2 := by omega
  clear hB
  go_enter Tryz.func19, Tryz.ntmps19
  go_wp2_with fail
  go_loopw [4, 20] (fun vo vi wr => ∃ (i : Nat) (R : List (Value × Ft)), vi = .int .i64 i ∧ i ≤ k.length ∧ R.map (·.2) = pp i ∧ (∀ x ∈ k.take i, (Nr.fold x).op ≠ Nr.counts 7) ∧ Rk 4 (fun j => B ≤ j) wr vo R.length (flatK R) ∧
    (∀ p ∈ R, KsB (fun j => ((G j ∧ j < w.heap.size) ∨ B ≤ j) ∧ ¬ At vo j) wr p.1 p.2) ∧ Lay w wr ∧ Bx wr (w.heap.size + 1) (.int .i64 0) (.string ⟨#[]⟩) (.string ⟨#[]⟩) (.slice none 0 0) ∧ B ≤ wr.heap.size ∧ wr.cell? ⟨w.heap.size, 0, none⟩ = some (.int .i64 7)) (fun _ vi _ => k.length - (intOf vi).toNat)
  case atStart =>
    exact ⟨0, [], rfl, Nat.zero_le _, by rw [HP0.out]; rfl, fun x hx => by simp at hx, Rk.nil 4 _ _, fun p hp => by simp at hp, ((Keep.refl _ _).alloc _).alloc _, ⟨by go_simp, by go_simp, by go_simp, by go_simp, by go_simp, by go_simp, by go_simp, by go_simp⟩, by simp; omega, by go_simp⟩
  case round =>
    obtain ⟨i, R, rfl, hi, hmap, hno, hrk, hkb, hlay, hbx, hwr, hop⟩ := hrel
    obtain ⟨au, cu, rfl⟩ := hrk.shape
    have hrl : R.length ≤ 1000 := by have := HPL.out i; rw [← hmap, List.length_map] at this; exact this
    have HMAP := Lib.hid hmap
    have HNO := Lib.hid hno
    have HRK := Lib.hid hrk
    have HKB := Lib.hid hkb
    have HLAY := Lib.hid hlay
    have HBX := Lib.hid hbx
    clear hmap hno hrk hkb
    by_cases hlt : i < k.length
    · have hks := KsB.keep hlay.size (fun j h hj => hlay.block hj) _ _ HK0.out
      rw [KsB] at hks
      obtain ⟨a', cap, he, _, h0 | ⟨bb, off, rfl, _, hbl, hka⟩⟩ := hks
      · exact absurd hlt (by rw [h0]; simp)
      obtain ⟨rfl, rfl⟩ : a = some ⟨bb, off, none⟩ ∧ c = cap := by simpa using he
      obtain ⟨kv, x0, x1, x2, x3, x4⟩ := KbAt.get hka i hlt
      have HPI := Lib.hid (HPS.out i hlt)
      have HPI1 := Lib.hid (HPL.out (i + 1))
      have HHIT : Hid ((Nr.fold k[i]).op = Nr.counts 7 → Nr.foldRow 7 (k.map Nr.fold) = Nr.fold k[i]) := Lib.hid (foldRow_hitR hlt HNO.out)
      have HNXT : Hid ((Nr.fold k[i]).op ≠ Nr.counts 7 → ∀ x ∈ k.take (i + 1), (Nr.fold x).op ≠ Nr.counts 7) := Lib.hid (fun h x hx => by
        rw [List.take_succ_eq_append_getElem hlt, List.mem_append, List.mem_singleton] at hx
        rcases hx with hx | rfl
        · exact HNO.out x hx
        · exact h)
      have hkid := HKK.out _ (List.getElem_mem hlt)
      generalize k[i] = x at x0 x1 x2 x3 x4 HPI HHIT HNXT hkid
      obtain ⟨ak, ck, rfl⟩ := (KsB.at _ _ x4).shape
      have hl1 : Lay wr (wr.alloc (.cells #[.int .i64 x.op, .string x.name, .string x.text, .slice ak x.kids.length ck] 26)) := (Keep.refl _ _).alloc _
      have hc := hkid _ _ _ (KsB.keep hl1.size (fun j h hj => hl1.block hj) _ _ x4)
      unfold FoldP at hc
      obtain ⟨X, hX⟩ : ∃ X, X = Nr.fold x := ⟨_, rfl⟩
      rw [← hX] at hc HPI HHIT HNXT
      have HC := Lib.hid hc
      have HL1 := Lib.hid hl1
      clear hlay he hka x4 hkid hl1 hc hX
      simp only [Ft.val] at HC
      rw [show Nr.counts 7 = 2 from rfl] at HHIT HNXT
      have hop1 : (wr.alloc (.cells #[.int .i64 x.op, .string x.name, .string x.text, .slice ak x.kids.length ck] 26)).cell? ⟨w.heap.size, 0, none⟩ = some (.int .i64 7) := (World.cell?_of_block (a := ⟨w.heap.size, 0, none⟩) (Below.heap_alloc _ _ _ (by show w.heap.size < wr.heap.size; omega))).trans hop
      by_cases hA : X.op = 2
      · have hA1 : (X.op == 2) = true := beq_iff_eq.2 hA
        have HR := Lib.hid (HHIT.out hA)
        clear HHIT HNXT HPI HPI1 hA
        go_wp2_with (go_at_call 19; refine HC.out.mono ?_; rintro e6 w6 ⟨kv6, rfl, hkb6, hl6⟩; obtain ⟨ak6, ck6, rfl⟩ := (KsB.at _ _ hkb6).shape; simp only; have hl7 : Lay wr (w6.alloc (.cells #[.int .i64 X.op, .string X.name, .string X.text, .slice ak6 X.kids.length ck6] 26)) := (HL1.out.trans hl6).alloc _; have hkb7 := KsB.keep (w' := w6.alloc (.cells #[.int .i64 X.op, .string X.name, .string X.text, .slice ak6 X.kids.length ck6] 26)) (by simp) (fun j _ hj => Below.heap_alloc _ _ _ hj) _ _ hkb6; have hbx7 := HBX.out.carry (W' := w6.alloc (.cells #[.int .i64 X.op, .string X.name, .string X.text, .slice ak6 X.kids.length ck6] 26)) (hl7.block (by omega)); have hop7 : (w6.alloc (.cells #[.int .i64 X.op, .string X.name, .string X.text, .slice ak6 X.kids.length ck6] 26)).cell? ⟨w.heap.size, 0, none⟩ = some (.int .i64 7) := (World.cell?_of_block (a := ⟨w.heap.size, 0, none⟩) (hl7.block (by show w.heap.size < wr.heap.size; omega))).trans hop; have hw6 : wr.heap.size + 1 ≤ w6.heap.size := (by have := hl6.size; simp at this; omega); obtain ⟨c0, c1, c2, c3, f0, f1, f2, f3⟩ := id hbx7)
        have hq := hbx7.all (.int .i64 X.op) (.string X.name) (.string X.text) (.slice ak6 X.kids.length ck6)
        unfold stored at hq
        obtain ⟨q0, q1, q2, q3, _, _, _, _⟩ := hq
        refine bodyPost_ret (v := .agg #[.int .i64 X.op, .string X.name, .string X.text, .slice ak6 X.kids.length ck6]) (by simp [results, Tryz.results19, go_sem, q0, q1, q2, q3]) rfl ?_
        unfold FoldP
        rw [show Nr.fold (.mk 7 Nr.e0 Nr.e0 k) = X from by rw [Nr.fold, if_neg (by decide), Nr.foldL_map]; exact HR.out]
        refine ⟨_, rfl, ?_, keep_stored (HLAY.out.trans hl7) (Nat.le_succ _) _ _ _ _⟩
        refine KsB.mono (fun j _ hj => ?_) _ _ (KsB.keep (Nat.le_of_eq (stored_size _ _ _ _).symm) (fun j hj _ => stored_other (by simp at hj; omega) _ _ _ _) _ _ hkb7)
        simp at hj
        rcases hj with hj | hj
        · exact .inl hj.1
        · exact .inr (by omega)
      have hA1 : (X.op == 2) = false := beq_eq_false_iff_ne.2 hA
      have HN1 := Lib.hid (HNXT.out hA)
      clear HHIT HNXT
      by_cases hO : X.op = 7
      · have hO1 : (X.op == 7) = true := beq_iff_eq.2 hO
        have hpart : Nr.part 7 X = X.kids := by unfold Nr.part; rw [if_pos hO]
        have hxl : R.length + X.kids.length ≤ 1000 := by
          have h := HPI1.out
          rw [HPI.out, hpart, List.length_append, ← HMAP.out, List.length_map] at h
          exact h
        clear hA hO
        go_wp2_with (first | (go_at_call 19; refine HC.out.mono ?_; rintro e6 w6 ⟨kv6, rfl, hkb6, hl6⟩; obtain ⟨ak6, ck6, rfl⟩ := (KsB.at _ _ hkb6).shape; simp only; have hl7 : Lay wr (w6.alloc (.cells #[.int .i64 X.op, .string X.name, .string X.text, .slice ak6 X.kids.length ck6] 26)) := (HL1.out.trans hl6).alloc _; have hkb7 := KsB.keep (w' := w6.alloc (.cells #[.int .i64 X.op, .string X.name, .string X.text, .slice ak6 X.kids.length ck6] 26)) (by simp) (fun j _ hj => Below.heap_alloc _ _ _ hj) _ _ hkb6; have hbx7 := HBX.out.carry (W' := w6.alloc (.cells #[.int .i64 X.op, .string X.name, .string X.text, .slice ak6 X.kids.length ck6] 26)) (hl7.block (by omega)); have hop7 : (w6.alloc (.cells #[.int .i64 X.op, .string X.name, .string X.text, .slice ak6 X.kids.length ck6] 26)).cell? ⟨w.heap.size, 0, none⟩ = some (.int .i64 7) := (World.cell?_of_block (a := ⟨w.heap.size, 0, none⟩) (hl7.block (by show w.heap.size < wr.heap.size; omega))).trans hop; have hw6 : wr.heap.size + 1 ≤ w6.heap.size := (by have := hl6.size; simp at this; omega); obtain ⟨c0, c1, c2, c3, f0, f1, f2, f3⟩ := id hbx7; obtain ⟨S, hSm, hsrc, hSk0⟩ := src_kids hkb7) | (at_builtin; refine wpList_append_rk E26 _ rfl _ _ 24 rfl (G := fun b => B ≤ b) rfl (Rk.lay HRK.out hl7) ?c1 (.slice ak6 X.kids.length ck6) X.kids.length (flatK S) rfl hsrc ?c2 ?c3 ?_))
        case c1 => intro b hb; simp at hb; omega
        case c2 => omega
        case c3 => omega
        intro v' w2 hrk2 hk2
        have hSl : X.kids.length = S.length := by rw [← hSm, List.length_map]
        have hSk : ∀ p ∈ S, KsB (fun j => (G j ∧ j < w.heap.size) ∨ wr.heap.size ≤ j) (w6.alloc (.cells #[.int .i64 X.op, .string X.name, .string X.text, .slice ak6 X.kids.length ck6] 26)) p.1 p.2 := fun p hp => KsB.mono (fun j _ hj => hj.imp (fun h => h) (fun h => by simp at h; omega)) _ _ (hSk0 p hp)
        clear hsrc hSk0 c0 c1 c2 c3 f0 f1 f2 f3 hbx7 hop7 hkb6 hkb7 hl6
        have hst := fold_step (S := S) HB.out HLAY.out hl7 HRK.out HKB.out hSk hwr (hrk2.mono fun j hj _ => ⟨hj.1, hj.2.imp id fun h => by simpa using h⟩) hSl hk2
        obtain ⟨t1, t2, t3, t4, t5⟩ := hst
        have T1 := Lib.hid t1
        have T2 := Lib.hid t2
        have T3 := Lib.hid t3
        have T4 : Hid (Bx w2 (w.heap.size + 1) (.int .i64 0) (.string ⟨#[]⟩) (.string ⟨#[]⟩) (.slice none 0 0)) := Lib.hid (HBX.out.carry (t4 _ (by omega) (by omega)))
        have T5 : Hid (w2.cell? ⟨w.heap.size, 0, none⟩ = some (.int .i64 7)) := Lib.hid ((World.cell?_of_block (a := ⟨w.heap.size, 0, none⟩) (t4 _ (Nat.le_refl _) (by show w.heap.size < B; omega))).trans hop)
        have T6 := Lib.hid t5
        have HM2 : Hid ((R ++ S).map (·.2) = pp (i + 1)) := Lib.hid (by rw [List.map_append, HMAP.out, hSm, HPI.out, hpart])
        clear t1 t2 t3 t4 t5 hrk2 hk2 hSk hSl hSm hpart
        go_wp2_with fail
        go_roundw
        case rel => exact ⟨i + 1, R ++ S, by go_num, by omega, HM2.out, HN1.out, T1.out, T2.out, T3.out, T4.out, T6.out, T5.out⟩
        case measure => simp [intOf] <;> omega
      have hO1 : (X.op == 7) = false := beq_eq_false_iff_ne.2 hO
      by_cases hD : 2 < X.op
      · have hD1 : decide (2 < X.op) = true := decide_eq_true hD
        have hpart : Nr.part 7 X = [X] := by unfold Nr.part; rw [if_neg hO, if_pos hD]
        have hxl : R.length + 1 ≤ 1000 := by
          have h := HPI1.out
          rw [HPI.out, hpart, List.length_append, ← HMAP.out, List.length_map] at h
          exact h
        clear hA hO hD
        go_wp2_with (first | (go_at_call 19; refine HC.out.mono ?_; rintro e6 w6 ⟨kv6, rfl, hkb6, hl6⟩; obtain ⟨ak6, ck6, rfl⟩ := (KsB.at _ _ hkb6).shape; simp only; have hl7 : Lay wr (w6.alloc (.cells #[.int .i64 X.op, .string X.name, .string X.text, .slice ak6 X.kids.length ck6] 26)) := (HL1.out.trans hl6).alloc _; have hkb7 := KsB.keep (w' := w6.alloc (.cells #[.int .i64 X.op, .string X.name, .string X.text, .slice ak6 X.kids.length ck6] 26)) (by simp) (fun j _ hj => Below.heap_alloc _ _ _ hj) _ _ hkb6; have hbx7 := HBX.out.carry (W' := w6.alloc (.cells #[.int .i64 X.op, .string X.name, .string X.text, .slice ak6 X.kids.length ck6] 26)) (hl7.block (by omega)); have hop7 : (w6.alloc (.cells #[.int .i64 X.op, .string X.name, .string X.text, .slice ak6 X.kids.length ck6] 26)).cell? ⟨w.heap.size, 0, none⟩ = some (.int .i64 7) := (World.cell?_of_block (a := ⟨w.heap.size, 0, none⟩) (hl7.block (by show w.heap.size < wr.heap.size; omega))).trans hop; have hw6 : wr.heap.size + 1 ≤ w6.heap.size := (by have := hl6.size; simp at this; omega); obtain ⟨c0, c1, c2, c3, f0, f1, f2, f3⟩ := id hbx7) | (at_builtin; refine wpList_append_rk E26 _ rfl _ _ 24 rfl (G := fun b => B ≤ b) rfl (Rk.alloc (Rk.lay HRK.out hl7) _) ?c1 (.slice (some ⟨w6.heap.size + 1, 0, none⟩) 1 1) 1 (flatK [((.slice ak6 X.kids.length ck6 : Value), X)]) rfl (src_kid (w6.alloc (.cells #[.int .i64 X.op, .string X.name, .string X.text, .slice ak6 X.kids.length ck6] 26)) _ (by simp) (.slice ak6 X.kids.length ck6, X) rfl) ?c2 ?c3 ?_))
        case c1 => intro b hb; simp at hb; omega
        case c2 => omega
        case c3 => omega
        intro v' w2 hrk2 hk2
        obtain ⟨S, hS⟩ : ∃ S : List (Value × Ft), S = [((.slice ak6 X.kids.length ck6 : Value), X)] := ⟨_, rfl⟩
        rw [← hS] at hrk2
        have hSl : 1 = S.length := by rw [hS]; rfl
        have hSm : S.map (·.2) = [X] := by rw [hS]; rfl
        have hl8 : Lay wr ((w6.alloc (.cells #[.int .i64 X.op, .string X.name, .string X.text, .slice ak6 X.kids.length ck6] 26)).alloc (.cells #[.int .i64 X.op, .string X.name, .string X.text, .slice ak6 X.kids.length ck6] 26)) := hl7.alloc _
        have hSk : ∀ p ∈ S, KsB (fun j => (G j ∧ j < w.heap.size) ∨ wr.heap.size ≤ j) ((w6.alloc (.cells #[.int .i64 X.op, .string X.name, .string X.text, .slice ak6 X.kids.length ck6] 26)).alloc (.cells #[.int .i64 X.op, .string X.name, .string X.text, .slice ak6 X.kids.length ck6] 26)) p.1 p.2 := fun p hp => by
          rw [hS, List.mem_singleton] at hp
          subst hp
          exact KsB.mono (fun j _ hj => hj.imp (fun h => h) (fun h => by simp at h; omega)) _ _ (KsB.keep (by simp) (fun j _ hj => Below.heap_alloc _ _ _ hj) _ _ hkb7)
        clear hS c0 c1 c2 c3 f0 f1 f2 f3 hbx7 hop7 hkb6 hkb7 hl6
        have hst := fold_step (S := S) HB.out HLAY.out hl8 HRK.out HKB.out hSk hwr (hrk2.mono fun j hj _ => ⟨hj.1, hj.2.imp id fun h => by simpa using h⟩) hSl hk2
        obtain ⟨t1, t2, t3, t4, t5⟩ := hst
        have T1 := Lib.hid t1
        have T2 := Lib.hid t2
        have T3 := Lib.hid t3
        have T4 : Hid (Bx w2 (w.heap.size + 1) (.int .i64 0) (.string ⟨#[]⟩) (.string ⟨#[]⟩) (.slice none 0 0)) := Lib.hid (HBX.out.carry (t4 _ (by omega) (by omega)))
        have T5 : Hid (w2.cell? ⟨w.heap.size, 0, none⟩ = some (.int .i64 7)) := Lib.hid ((World.cell?_of_block (a := ⟨w.heap.size, 0, none⟩) (t4 _ (Nat.le_refl _) (by show w.heap.size < B; omega))).trans hop)
        have T6 := Lib.hid t5
        have HM2 : Hid ((R ++ S).map (·.2) = pp (i + 1)) := Lib.hid (by rw [List.map_append, HMAP.out, hSm, HPI.out, hpart])
        clear t1 t2 t3 t4 t5 hrk2 hk2 hSk hSl hSm hpart
        go_wp2_with fail
        go_roundw
        case rel => exact ⟨i + 1, R ++ S, by go_num, by omega, HM2.out, HN1.out, T1.out, T2.out, T3.out, T4.out, T6.out, T5.out⟩
        case measure => simp [intOf] <;> omega
      · have hD1 : decide (2 < X.op) = false := decide_eq_false hD
        have hpart : Nr.part 7 X = [] := by unfold Nr.part; rw [if_neg hO, if_neg hD]
        clear hA hO hD
        go_wp2_with (go_at_call 19; refine HC.out.mono ?_; rintro e6 w6 ⟨kv6, rfl, hkb6, hl6⟩; obtain ⟨ak6, ck6, rfl⟩ := (KsB.at _ _ hkb6).shape; simp only; have hl7 : Lay wr (w6.alloc (.cells #[.int .i64 X.op, .string X.name, .string X.text, .slice ak6 X.kids.length ck6] 26)) := (HL1.out.trans hl6).alloc _; have hkb7 := KsB.keep (w' := w6.alloc (.cells #[.int .i64 X.op, .string X.name, .string X.text, .slice ak6 X.kids.length ck6] 26)) (by simp) (fun j _ hj => Below.heap_alloc _ _ _ hj) _ _ hkb6; have hbx7 := HBX.out.carry (W' := w6.alloc (.cells #[.int .i64 X.op, .string X.name, .string X.text, .slice ak6 X.kids.length ck6] 26)) (hl7.block (by omega)); have hop7 : (w6.alloc (.cells #[.int .i64 X.op, .string X.name, .string X.text, .slice ak6 X.kids.length ck6] 26)).cell? ⟨w.heap.size, 0, none⟩ = some (.int .i64 7) := (World.cell?_of_block (a := ⟨w.heap.size, 0, none⟩) (hl7.block (by show w.heap.size < wr.heap.size; omega))).trans hop; have hw6 : wr.heap.size + 1 ≤ w6.heap.size := (by have := hl6.size; simp at this; omega); obtain ⟨c0, c1, c2, c3, f0, f1, f2, f3⟩ := id hbx7)
        have hM : R.map (·.2) = pp (i + 1) := by rw [HMAP.out, HPI.out, hpart, List.append_nil]
        have hk9 : ∀ p ∈ R, KsB (fun j => ((G j ∧ j < w.heap.size) ∨ B ≤ j) ∧ ¬ At (.slice au R.length cu) j) (w6.alloc (.cells #[.int .i64 X.op, .string X.name, .string X.text, .slice ak6 X.kids.length ck6] 26)) p.1 p.2 := fun p hp => KsB.keep hl7.size (fun j _ hj => hl7.block hj) _ _ (HKB.out p hp)
        have hs9 : B ≤ (w6.alloc (.cells #[.int .i64 X.op, .string X.name, .string X.text, .slice ak6 X.kids.length ck6] 26)).heap.size := by have := hl7.size; omega
        go_roundw
        case rel => exact ⟨i + 1, R, by go_num, by omega, hM, HN1.out, Rk.lay HRK.out hl7, hk9, HLAY.out.trans hl7, hbx7, hs9, hop7⟩
        case measure => simp [intOf] <;> omega
    · obtain rfl : i = k.length := by omega
      have hrow : Nr.fold (.mk 7 Nr.e0 Nr.e0 k) = rowOf 7 (R.map (·.2)) := by
        rw [Nr.fold, if_neg (by decide), Nr.foldL_map, foldRow_noneR (fun x hx => HNO.out x (by rw [List.take_length]; exact hx)), ← HPE.out, ← HMAP.out]
      have HROW := Lib.hid hrow
      clear hrow
      obtain ⟨c0, c1, c2, c3, f0, f1, f2, f3⟩ := HBX.out
      by_cases hz : R.length = 0
      · have hz1 : ((R.length : Int) == 0) = true := by rw [hz]; rfl
        go_wp2_with fail
        have hq := HBX.out.all (.int .i64 1) (.string ⟨#[]⟩) (.string ⟨#[]⟩) (.slice none 0 0)
        unfold stored at hq
        obtain ⟨q0, q1, q2, q3, _, _, _, _⟩ := hq
        refine bodyPost_ret (v := .agg #[.int .i64 1, .string ⟨#[]⟩, .string ⟨#[]⟩, .slice none 0 0]) (by simp [results, Tryz.results19, go_sem, q0, q1, q2, q3]) rfl ?_
        unfold FoldP
        rw [HROW.out, List.eq_nil_of_length_eq_zero hz, List.map_nil, rowOf_nil7]
        exact ⟨.slice none 0 0, rfl, ksb_none _ _ _ _ _ _ _, keep_stored HLAY.out (Nat.le_succ _) _ _ _ _⟩
      have hz1 : ((R.length : Int) == 0) = false := beq_eq_false_iff_ne.2 (by omega)
      by_cases h1 : R.length = 1
      · have h11 : ((R.length : Int) == 1) = true := by rw [h1]; rfl
        obtain ⟨p, hp⟩ : ∃ p, R = [p] := List.length_eq_one_iff.1 h1
        have hkp := HKB.out p (by rw [hp]; simp)
        obtain ⟨_, ⟨hu, h0⟩ | ⟨g, cap, hu, hg, hgl, _, _, hcell, _⟩⟩ := id HRK.out
        · exact absurd h0 hz
        obtain ⟨rfl, rfl⟩ : au = some ⟨g, 0, none⟩ ∧ cu = cap := by simpa using hu
        have e0 := hcell 0 (by rw [hp]; simp [flatK])
        have e1 := hcell 1 (by rw [hp]; simp [flatK])
        have e2 := hcell 2 (by rw [hp]; simp [flatK])
        have e3 := hcell 3 (by rw [hp]; simp [flatK])
        rw [hp] at e0 e1 e2 e3
        simp only [flatK, List.cons_append, List.nil_append, List.getElem?_cons_zero, List.getElem?_cons_succ] at e0 e1 e2 e3
        have HW := Lib.hid (show rowOf 7 (R.map (·.2)) = p.2 by rw [hp]; rfl)
        obtain ⟨pv, px⟩ := p
        simp only at e0 e1 e2 e3 HW hkp
        obtain ⟨ap, cp, rfl⟩ := (KsB.at _ _ hkp).shape
        have HKP := Lib.hid hkp
        have hpos : 0 < R.length := by omega
        clear hcell hu hp hkp
        go_wp2_with fail
        have hq := HBX.out.all (.int .i64 px.op) (.string px.name) (.string px.text) (.slice ap px.kids.length cp)
        unfold stored at hq
        obtain ⟨q0, q1, q2, q3, _, _, _, _⟩ := hq
        refine bodyPost_ret (v := .agg #[.int .i64 px.op, .string px.name, .string px.text, .slice ap px.kids.length cp]) (by simp [results, Tryz.results19, go_sem, q0, q1, q2, q3]) rfl ?_
        unfold FoldP
        rw [HROW.out, HW.out]
        refine ⟨_, rfl, ?_, keep_stored HLAY.out (Nat.le_succ _) _ _ _ _⟩
        exact KsB.mono (fun j _ hj => hj.1.elim (fun h => .inl h.1) (fun h => .inr (by omega))) _ _ (KsB.keep (Nat.le_of_eq (stored_size _ _ _ _).symm) (fun j hj _ => stored_other (by have := hj.1.imp (fun h => h.2) id; omega) _ _ _ _) _ _ HKP.out)
      · have h11 : ((R.length : Int) == 1) = false := beq_eq_false_iff_ne.2 (by omega)
        go_wp2_with fail
        have hq := HBX.out.all (.int .i64 7) (.string ⟨#[]⟩) (.string ⟨#[]⟩) (.slice au R.length cu)
        unfold stored at hq
        obtain ⟨q0, q1, q2, q3, _, _, _, _⟩ := hq
        refine bodyPost_ret (v := .agg #[.int .i64 7, .string ⟨#[]⟩, .string ⟨#[]⟩, .slice au R.length cu]) (by simp [results, Tryz.results19, go_sem, q0, q1, q2, q3]) rfl ?_
        unfold FoldP
        rw [HROW.out, rowOf_many 7 _ (by rw [List.length_map]; omega)]
        refine ⟨.slice au R.length cu, rfl, ?_, keep_stored HLAY.out (Nat.le_succ _) _ _ _ _⟩
        have hoth : ∀ j, ((G j ∧ j < w.heap.size) ∨ B ≤ j) → (stored wr (w.heap.size + 1) (.int .i64 7) (.string ⟨#[]⟩) (.string ⟨#[]⟩) (.slice au R.length cu)).heap[j]? = wr.heap[j]? := fun j hj => stored_other (by have := hj.imp (fun h => h.2) id; omega) _ _ _ _
        have hs : wr.heap.size ≤ (stored wr (w.heap.size + 1) (.int .i64 7) (.string ⟨#[]⟩) (.string ⟨#[]⟩) (.slice au R.length cu)).heap.size := Nat.le_of_eq (stored_size _ _ _ _).symm
        exact KsB.mono (fun j _ hj => hj.elim (fun h => .inl h.1) (fun h => .inr (by omega))) _ _ (KsB.of_rk (G0 := fun j => (G j ∧ j < w.heap.size) ∨ B ≤ j) (fun j hj => .inr hj) (HRK.out.carry hs fun j hj _ _ => hoth j (.inr hj)) (fun p hp => KsB.mono (fun j _ hj => hj.1) _ _ (KsB.keep hs (fun j hj _ => hoth j hj.1) _ _ (HKB.out p hp))) hrl _ _ _)

set_option maxHeartbeats 8000000 in
set_option maxRecDepth 100000 in
theorem fold_row_8 (k : List Ft) (hl : Ft.counts k ≤ 1000) (hn : ∀ x ∈ k, (Nr.fold x).count ≤ x.count) (hk : ∀ x ∈ k, FoldOK x) (G : Nat → Prop) (a : Option Addr) (c : Nat) (w : World) (hks : KsB G w (.slice a k.length c) (.mk 8 Nr.e0 Nr.e0 k)) :
    Calls Tryz.prog 19 #[.agg #[.int .i64 8, .string Nr.e0, .string Nr.e0, .slice a k.length c]] w (FoldP G (.mk 8 Nr.e0 Nr.e0 k) w) := by
  have hkl := counts_len k
  obtain ⟨i26, z26, E26⟩ := elem26
  obtain ⟨B, hB⟩ : ∃ B, B = w.heap.size + 2 := ⟨_, rfl⟩
  obtain ⟨pp, hpp⟩ : ∃ pp : Nat → List Ft, pp = fun i => ((k.take i).map Nr.fold).flatMap (Nr.part 8) := ⟨_, rfl⟩
  have hpl : ∀ i, (pp i).length ≤ 1000 := fun i => by rw [hpp]; exact Nat.le_trans (parts_lenR hn i) hl
  have hp0 : pp 0 = [] := by rw [hpp]; rfl
  have hps : ∀ i (h : i < k.length), pp (i + 1) = pp i ++ Nr.part 8 (Nr.fold k[i]) := fun i h => by
    rw [hpp]
    simp only
    rw [List.take_succ_eq_append_getElem h, List.map_append, List.flatMap_append, List.map_cons, List.map_nil, List.flatMap_cons, List.flatMap_nil, List.append_nil]
  have hpe : pp k.length = (k.map Nr.fold).flatMap (Nr.part 8) := by rw [hpp]; simp only; rw [List.take_length]
  have HPL := Lib.hid hpl
  have HP0 := Lib.hid hp0
  have HPS := Lib.hid hps
  have HPE := Lib.hid hpe
  have HK0 := Lib.hid (KsB.mono (G' := fun j => G j ∧ j < w.heap.size) (fun j hj h => ⟨h, hj⟩) _ _ hks)
  have HKK := Lib.hid hk
  clear hpp hpl hp0 hps hpe hks hk hn
  have HB := Lib.hid hB
  have hB1 : w.heap.size + 2 ≤ B := by omega
  have hB2 : B ≤ w.heap.size + 2 := by omega
  clear hB
  go_enter Tryz.func19, Tryz.ntmps19
  go_wp2_with fail
  go_loopw [4, 20] (fun vo vi wr => ∃ (i : Nat) (R : List (Value × Ft)), vi = .int .i64 i ∧ i ≤ k.length ∧ R.map (·.2) = pp i ∧ (∀ x ∈ k.take i, (Nr.fold x).op ≠ Nr.counts 8) ∧ Rk 4 (fun j => B ≤ j) wr vo R.length (flatK R) ∧
    (∀ p ∈ R, KsB (fun j => ((G j ∧ j < w.heap.size) ∨ B ≤ j) ∧ ¬ At vo j) wr p.1 p.2) ∧ Lay w wr ∧ Bx wr (w.heap.size + 1) (.int .i64 0) (.string ⟨#[]⟩) (.string ⟨#[]⟩) (.slice none 0 0) ∧ B ≤ wr.heap.size ∧ wr.cell? ⟨w.heap.size, 0, none⟩ = some (.int .i64 8)) (fun _ vi _ => k.length - (intOf vi).toNat)
  case atStart =>
    exact ⟨0, [], rfl, Nat.zero_le _, by rw [HP0.out]; rfl, fun x hx => by simp at hx, Rk.nil 4 _ _, fun p hp => by simp at hp, ((Keep.refl _ _).alloc _).alloc _, ⟨by go_simp, by go_simp, by go_simp, by go_simp, by go_simp, by go_simp, by go_simp, by go_simp⟩, by simp; omega, by go_simp⟩
  case round =>
    obtain ⟨i, R, rfl, hi, hmap, hno, hrk, hkb, hlay, hbx, hwr, hop⟩ := hrel
    obtain ⟨au, cu, rfl⟩ := hrk.shape
    have hrl : R.length ≤ 1000 := by have := HPL.out i; rw [← hmap, List.length_map] at this; exact this
    have HMAP := Lib.hid hmap
    have HNO := Lib.hid hno
    have HRK := Lib.hid hrk
    have HKB := Lib.hid hkb
    have HLAY := Lib.hid hlay
    have HBX := Lib.hid hbx
    clear hmap hno hrk hkb
    by_cases hlt : i < k.length
    · have hks := KsB.keep hlay.size (fun j h hj => hlay.block hj) _ _ HK0.out
      rw [KsB] at hks
      obtain ⟨a', cap, he, _, h0 | ⟨bb, off, rfl, _, hbl, hka⟩⟩ := hks
      · exact absurd hlt (by rw [h0]; simp)
      obtain ⟨rfl, rfl⟩ : a = some ⟨bb, off, none⟩ ∧ c = cap := by simpa using he
      obtain ⟨kv, x0, x1, x2, x3, x4⟩ := KbAt.get hka i hlt
      have HPI := Lib.hid (HPS.out i hlt)
      have HPI1 := Lib.hid (HPL.out (i + 1))
      have HHIT : Hid ((Nr.fold k[i]).op = Nr.counts 8 → Nr.foldRow 8 (k.map Nr.fold) = Nr.fold k[i]) := Lib.hid (foldRow_hitR hlt HNO.out)
      have HNXT : Hid ((Nr.fold k[i]).op ≠ Nr.counts 8 → ∀ x ∈ k.take (i + 1), (Nr.fold x).op ≠ Nr.counts 8) := Lib.hid (fun h x hx => by
        rw [List.take_succ_eq_append_getElem hlt, List.mem_append, List.mem_singleton] at hx
        rcases hx with hx | rfl
        · exact HNO.out x hx
        · exact h)
      have hkid := HKK.out _ (List.getElem_mem hlt)
      generalize k[i] = x at x0 x1 x2 x3 x4 HPI HHIT HNXT hkid
      obtain ⟨ak, ck, rfl⟩ := (KsB.at _ _ x4).shape
      have hl1 : Lay wr (wr.alloc (.cells #[.int .i64 x.op, .string x.name, .string x.text, .slice ak x.kids.length ck] 26)) := (Keep.refl _ _).alloc _
      have hc := hkid _ _ _ (KsB.keep hl1.size (fun j h hj => hl1.block hj) _ _ x4)
      unfold FoldP at hc
      obtain ⟨X, hX⟩ : ∃ X, X = Nr.fold x := ⟨_, rfl⟩
      rw [← hX] at hc HPI HHIT HNXT
      have HC := Lib.hid hc
      have HL1 := Lib.hid hl1
      clear hlay he hka x4 hkid hl1 hc hX
      simp only [Ft.val] at HC
      rw [show Nr.counts 8 = 1 from rfl] at HHIT HNXT
      have hop1 : (wr.alloc (.cells #[.int .i64 x.op, .string x.name, .string x.text, .slice ak x.kids.length ck] 26)).cell? ⟨w.heap.size, 0, none⟩ = some (.int .i64 8) := (World.cell?_of_block (a := ⟨w.heap.size, 0, none⟩) (Below.heap_alloc _ _ _ (by show w.heap.size < wr.heap.size; omega))).trans hop
      by_cases hA : X.op = 1
      · have hA1 : (X.op == 1) = true := beq_iff_eq.2 hA
        have HR := Lib.hid (HHIT.out hA)
        clear HHIT HNXT HPI HPI1 hA
        go_wp2_with (go_at_call 19; refine HC.out.mono ?_; rintro e6 w6 ⟨kv6, rfl, hkb6, hl6⟩; obtain ⟨ak6, ck6, rfl⟩ := (KsB.at _ _ hkb6).shape; simp only; have hl7 : Lay wr (w6.alloc (.cells #[.int .i64 X.op, .string X.name, .string X.text, .slice ak6 X.kids.length ck6] 26)) := (HL1.out.trans hl6).alloc _; have hkb7 := KsB.keep (w' := w6.alloc (.cells #[.int .i64 X.op, .string X.name, .string X.text, .slice ak6 X.kids.length ck6] 26)) (by simp) (fun j _ hj => Below.heap_alloc _ _ _ hj) _ _ hkb6; have hbx7 := HBX.out.carry (W' := w6.alloc (.cells #[.int .i64 X.op, .string X.name, .string X.text, .slice ak6 X.kids.length ck6] 26)) (hl7.block (by omega)); have hop7 : (w6.alloc (.cells #[.int .i64 X.op, .string X.name, .string X.text, .slice ak6 X.kids.length ck6] 26)).cell? ⟨w.heap.size, 0, none⟩ = some (.int .i64 8) := (World.cell?_of_block (a := ⟨w.heap.size, 0, none⟩) (hl7.block (by show w.heap.size < wr.heap.size; omega))).trans hop; have hw6 : wr.heap.size + 1 ≤ w6.heap.size := (by have := hl6.size; simp at this; omega); obtain ⟨c0, c1, c2, c3, f0, f1, f2, f3⟩ := id hbx7)
        have hq := hbx7.all (.int .i64 X.op) (.string X.name) (.string X.text) (.slice ak6 X.kids.length ck6)
        unfold stored at hq
        obtain ⟨q0, q1, q2, q3, _, _, _, _⟩ := hq
        refine bodyPost_ret (v := .agg #[.int .i64 X.op, .string X.name, .string X.text, .slice ak6 X.kids.length ck6]) (by simp [results, Tryz.results19, go_sem, q0, q1, q2, q3]) rfl ?_
        unfold FoldP
        rw [show Nr.fold (.mk 8 Nr.e0 Nr.e0 k) = X from by rw [Nr.fold, if_neg (by decide), Nr.foldL_map]; exact HR.out]
        refine ⟨_, rfl, ?_, keep_stored (HLAY.out.trans hl7) (Nat.le_succ _) _ _ _ _⟩
        refine KsB.mono (fun j _ hj => ?_) _ _ (KsB.keep (Nat.le_of_eq (stored_size _ _ _ _).symm) (fun j hj _ => stored_other (by simp at hj; omega) _ _ _ _) _ _ hkb7)
        simp at hj
        rcases hj with hj | hj
        · exact .inl hj.1
        · exact .inr (by omega)
      have hA1 : (X.op == 1) = false := beq_eq_false_iff_ne.2 hA
      have HN1 := Lib.hid (HNXT.out hA)
      clear HHIT HNXT
      by_cases hO : X.op = 8
      · have hO1 : (X.op == 8) = true := beq_iff_eq.2 hO
        have hpart : Nr.part 8 X = X.kids := by unfold Nr.part; rw [if_pos hO]
        have hxl : R.length + X.kids.length ≤ 1000 := by
          have h := HPI1.out
          rw [HPI.out, hpart, List.length_append, ← HMAP.out, List.length_map] at h
          exact h
        clear hA hO
        go_wp2_with (first | (go_at_call 19; refine HC.out.mono ?_; rintro e6 w6 ⟨kv6, rfl, hkb6, hl6⟩; obtain ⟨ak6, ck6, rfl⟩ := (KsB.at _ _ hkb6).shape; simp only; have hl7 : Lay wr (w6.alloc (.cells #[.int .i64 X.op, .string X.name, .string X.text, .slice ak6 X.kids.length ck6] 26)) := (HL1.out.trans hl6).alloc _; have hkb7 := KsB.keep (w' := w6.alloc (.cells #[.int .i64 X.op, .string X.name, .string X.text, .slice ak6 X.kids.length ck6] 26)) (by simp) (fun j _ hj => Below.heap_alloc _ _ _ hj) _ _ hkb6; have hbx7 := HBX.out.carry (W' := w6.alloc (.cells #[.int .i64 X.op, .string X.name, .string X.text, .slice ak6 X.kids.length ck6] 26)) (hl7.block (by omega)); have hop7 : (w6.alloc (.cells #[.int .i64 X.op, .string X.name, .string X.text, .slice ak6 X.kids.length ck6] 26)).cell? ⟨w.heap.size, 0, none⟩ = some (.int .i64 8) := (World.cell?_of_block (a := ⟨w.heap.size, 0, none⟩) (hl7.block (by show w.heap.size < wr.heap.size; omega))).trans hop; have hw6 : wr.heap.size + 1 ≤ w6.heap.size := (by have := hl6.size; simp at this; omega); obtain ⟨c0, c1, c2, c3, f0, f1, f2, f3⟩ := id hbx7; obtain ⟨S, hSm, hsrc, hSk0⟩ := src_kids hkb7) | (at_builtin; refine wpList_append_rk E26 _ rfl _ _ 24 rfl (G := fun b => B ≤ b) rfl (Rk.lay HRK.out hl7) ?c1 (.slice ak6 X.kids.length ck6) X.kids.length (flatK S) rfl hsrc ?c2 ?c3 ?_))
        case c1 => intro b hb; simp at hb; omega
        case c2 => omega
        case c3 => omega
        intro v' w2 hrk2 hk2
        have hSl : X.kids.length = S.length := by rw [← hSm, List.length_map]
        have hSk : ∀ p ∈ S, KsB (fun j => (G j ∧ j < w.heap.size) ∨ wr.heap.size ≤ j) (w6.alloc (.cells #[.int .i64 X.op, .string X.name, .string X.text, .slice ak6 X.kids.length ck6] 26)) p.1 p.2 := fun p hp => KsB.mono (fun j _ hj => hj.imp (fun h => h) (fun h => by simp at h; omega)) _ _ (hSk0 p hp)
        clear hsrc hSk0 c0 c1 c2 c3 f0 f1 f2 f3 hbx7 hop7 hkb6 hkb7 hl6
        have hst := fold_step (S := S) HB.out HLAY.out hl7 HRK.out HKB.out hSk hwr (hrk2.mono fun j hj _ => ⟨hj.1, hj.2.imp id fun h => by simpa using h⟩) hSl hk2
        obtain ⟨t1, t2, t3, t4, t5⟩ := hst
        have T1 := Lib.hid t1
        have T2 := Lib.hid t2
        have T3 := Lib.hid t3
        have T4 : Hid (Bx w2 (w.heap.size + 1) (.int .i64 0) (.string ⟨#[]⟩) (.string ⟨#[]⟩) (.slice none 0 0)) := Lib.hid (HBX.out.carry (t4 _ (by omega) (by omega)))
        have T5 : Hid (w2.cell? ⟨w.heap.size, 0, none⟩ = some (.int .i64 8)) := Lib.hid ((World.cell?_of_block (a := ⟨w.heap.size, 0, none⟩) (t4 _ (Nat.le_refl _) (by show w.heap.size < B; omega))).trans hop)
        have T6 := Lib.hid t5
        have HM2 : Hid ((R ++ S).map (·.2) = pp (i + 1)) := Lib.hid (by rw [List.map_append, HMAP.out, hSm, HPI.out, hpart])
        clear t1 t2 t3 t4 t5 hrk2 hk2 hSk hSl hSm hpart
        go_wp2_with fail
        go_roundw
        case rel => exact ⟨i + 1, R ++ S, by go_num, by omega, HM2.out, HN1.out, T1.out, T2.out, T3.out, T4.out, T6.out, T5.out⟩
        case measure => simp [intOf] <;> omega
      have hO1 : (X.op == 8) = false := beq_eq_false_iff_ne.2 hO
      by_cases hD : 2 < X.op
      · have hD1 : decide (2 < X.op) = true := decide_eq_true hD
        have hpart : Nr.part 8 X = [X] := by unfold Nr.part; rw [if_neg hO, if_pos hD]
        have hxl : R.length + 1 ≤ 1000 := by
          have h := HPI1.out
          rw [HPI.out, hpart, List.length_append, ← HMAP.out, List.length_map] at h
          exact h
        clear hA hO hD
        go_wp2_with (first | (go_at_call 19; refine HC.out.mono ?_; rintro e6 w6 ⟨kv6, rfl, hkb6, hl6⟩; obtain ⟨ak6, ck6, rfl⟩ := (KsB.at _ _ hkb6).shape; simp only; have hl7 : Lay wr (w6.alloc (.cells #[.int .i64 X.op, .string X.name, .string X.text, .slice ak6 X.kids.length ck6] 26)) := (HL1.out.trans hl6).alloc _; have hkb7 := KsB.keep (w' := w6.alloc (.cells #[.int .i64 X.op, .string X.name, .string X.text, .slice ak6 X.kids.length ck6] 26)) (by simp) (fun j _ hj => Below.heap_alloc _ _ _ hj) _ _ hkb6; have hbx7 := HBX.out.carry (W' := w6.alloc (.cells #[.int .i64 X.op, .string X.name, .string X.text, .slice ak6 X.kids.length ck6] 26)) (hl7.block (by omega)); have hop7 : (w6.alloc (.cells #[.int .i64 X.op, .string X.name, .string X.text, .slice ak6 X.kids.length ck6] 26)).cell? ⟨w.heap.size, 0, none⟩ = some (.int .i64 8) := (World.cell?_of_block (a := ⟨w.heap.size, 0, none⟩) (hl7.block (by show w.heap.size < wr.heap.size; omega))).trans hop; have hw6 : wr.heap.size + 1 ≤ w6.heap.size := (by have := hl6.size; simp at this; omega); obtain ⟨c0, c1, c2, c3, f0, f1, f2, f3⟩ := id hbx7) | (at_builtin; refine wpList_append_rk E26 _ rfl _ _ 24 rfl (G := fun b => B ≤ b) rfl (Rk.alloc (Rk.lay HRK.out hl7) _) ?c1 (.slice (some ⟨w6.heap.size + 1, 0, none⟩) 1 1) 1 (flatK [((.slice ak6 X.kids.length ck6 : Value), X)]) rfl (src_kid (w6.alloc (.cells #[.int .i64 X.op, .string X.name, .string X.text, .slice ak6 X.kids.length ck6] 26)) _ (by simp) (.slice ak6 X.kids.length ck6, X) rfl) ?c2 ?c3 ?_))
        case c1 => intro b hb; simp at hb; omega
        case c2 => omega
        case c3 => omega
        intro v' w2 hrk2 hk2
        obtain ⟨S, hS⟩ : ∃ S : List (Value × Ft), S = [((.slice ak6 X.kids.length ck6 : Value), X)] := ⟨_, rfl⟩
        rw [← hS] at hrk2
        have hSl : 1 = S.length := by rw [hS]; rfl
        have hSm : S.map (·.2) = [X] := by rw [hS]; rfl
        have hl8 : Lay wr ((w6.alloc (.cells #[.int .i64 X.op, .string X.name, .string X.text, .slice ak6 X.kids.length ck6] 26)).alloc (.cells #[.int .i64 X.op, .string X.name, .string X.text, .slice ak6 X.kids.length ck6] 26)) := hl7.alloc _
        have hSk : ∀ p ∈ S, KsB (fun j => (G j ∧ j < w.heap.size) ∨ wr.heap.size ≤ j) ((w6.alloc (.cells #[.int .i64 X.op, .string X.name, .string X.text, .slice ak6 X.kids.length ck6] 26)).alloc (.cells #[.int .i64 X.op, .string X.name, .string X.text, .slice ak6 X.kids.length ck6] 26)) p.1 p.2 := fun p hp => by
          rw [hS, List.mem_singleton] at hp
          subst hp
          exact KsB.mono (fun j _ hj => hj.imp (fun h => h) (fun h => by simp at h; omega)) _ _ (KsB.keep (by simp) (fun j _ hj => Below.heap_alloc _ _ _ hj) _ _ hkb7)
        clear hS c0 c1 c2 c3 f0 f1 f2 f3 hbx7 hop7 hkb6 hkb7 hl6
        have hst := fold_step (S := S) HB.out HLAY.out hl8 HRK.out HKB.out hSk hwr (hrk2.mono fun j hj _ => ⟨hj.1, hj.2.imp id fun h => by simpa using h⟩) hSl hk2
        obtain ⟨t1, t2, t3, t4, t5⟩ := hst
        have T1 := Lib.hid t1
        have T2 := Lib.hid t2
        have T3 := Lib.hid t3
        have T4 : Hid (Bx w2 (w.heap.size + 1) (.int .i64 0) (.string ⟨#[]⟩) (.string ⟨#[]⟩) (.slice none 0 0)) := Lib.hid (HBX.out.carry (t4 _ (by omega) (by omega)))
        have T5 : Hid (w2.cell? ⟨w.heap.size, 0, none⟩ = some (.int .i64 8)) := Lib.hid ((World.cell?_of_block (a := ⟨w.heap.size, 0, none⟩) (t4 _ (Nat.le_refl _) (by show w.heap.size < B; omega))).trans hop)
        have T6 := Lib.hid t5
        have HM2 : Hid ((R ++ S).map (·.2) = pp (i + 1)) := Lib.hid (by rw [List.map_append, HMAP.out, hSm, HPI.out, hpart])
        clear t1 t2 t3 t4 t5 hrk2 hk2 hSk hSl hSm hpart
        go_wp2_with fail
        go_roundw
        case rel => exact ⟨i + 1, R ++ S, by go_num, by omega, HM2.out, HN1.out, T1.out, T2.out, T3.out, T4.out, T6.out, T5.out⟩
        case measure => simp [intOf] <;> omega
      · have hD1 : decide (2 < X.op) = false := decide_eq_false hD
        have hpart : Nr.part 8 X = [] := by unfold Nr.part; rw [if_neg hO, if_neg hD]
        clear hA hO hD
        go_wp2_with (go_at_call 19; refine HC.out.mono ?_; rintro e6 w6 ⟨kv6, rfl, hkb6, hl6⟩; obtain ⟨ak6, ck6, rfl⟩ := (KsB.at _ _ hkb6).shape; simp only; have hl7 : Lay wr (w6.alloc (.cells #[.int .i64 X.op, .string X.name, .string X.text, .slice ak6 X.kids.length ck6] 26)) := (HL1.out.trans hl6).alloc _; have hkb7 := KsB.keep (w' := w6.alloc (.cells #[.int .i64 X.op, .string X.name, .string X.text, .slice ak6 X.kids.length ck6] 26)) (by simp) (fun j _ hj => Below.heap_alloc _ _ _ hj) _ _ hkb6; have hbx7 := HBX.out.carry (W' := w6.alloc (.cells #[.int .i64 X.op, .string X.name, .string X.text, .slice ak6 X.kids.length ck6] 26)) (hl7.block (by omega)); have hop7 : (w6.alloc (.cells #[.int .i64 X.op, .string X.name, .string X.text, .slice ak6 X.kids.length ck6] 26)).cell? ⟨w.heap.size, 0, none⟩ = some (.int .i64 8) := (World.cell?_of_block (a := ⟨w.heap.size, 0, none⟩) (hl7.block (by show w.heap.size < wr.heap.size; omega))).trans hop; have hw6 : wr.heap.size + 1 ≤ w6.heap.size := (by have := hl6.size; simp at this; omega); obtain ⟨c0, c1, c2, c3, f0, f1, f2, f3⟩ := id hbx7)
        have hM : R.map (·.2) = pp (i + 1) := by rw [HMAP.out, HPI.out, hpart, List.append_nil]
        have hk9 : ∀ p ∈ R, KsB (fun j => ((G j ∧ j < w.heap.size) ∨ B ≤ j) ∧ ¬ At (.slice au R.length cu) j) (w6.alloc (.cells #[.int .i64 X.op, .string X.name, .string X.text, .slice ak6 X.kids.length ck6] 26)) p.1 p.2 := fun p hp => KsB.keep hl7.size (fun j _ hj => hl7.block hj) _ _ (HKB.out p hp)
        have hs9 : B ≤ (w6.alloc (.cells #[.int .i64 X.op, .string X.name, .string X.text, .slice ak6 X.kids.length ck6] 26)).heap.size := by have := hl7.size; omega
        go_roundw
        case rel => exact ⟨i + 1, R, by go_num, by omega, hM, HN1.out, Rk.lay HRK.out hl7, hk9, HLAY.out.trans hl7, hbx7, hs9, hop7⟩
        case measure => simp [intOf] <;> omega
    · obtain rfl : i = k.length := by omega
      have hrow : Nr.fold (.mk 8 Nr.e0 Nr.e0 k) = rowOf 8 (R.map (·.2)) := by
        rw [Nr.fold, if_neg (by decide), Nr.foldL_map, foldRow_noneR (fun x hx => HNO.out x (by rw [List.take_length]; exact hx)), ← HPE.out, ← HMAP.out]
      have HROW := Lib.hid hrow
      clear hrow
      obtain ⟨c0, c1, c2, c3, f0, f1, f2, f3⟩ := HBX.out
      by_cases hz : R.length = 0
      · have hz1 : ((R.length : Int) == 0) = true := by rw [hz]; rfl
        go_wp2_with fail
        have hq := HBX.out.all (.int .i64 2) (.string ⟨#[]⟩) (.string ⟨#[]⟩) (.slice none 0 0)
        unfold stored at hq
        obtain ⟨q0, q1, q2, q3, _, _, _, _⟩ := hq
        refine bodyPost_ret (v := .agg #[.int .i64 2, .string ⟨#[]⟩, .string ⟨#[]⟩, .slice none 0 0]) (by simp [results, Tryz.results19, go_sem, q0, q1, q2, q3]) rfl ?_
        unfold FoldP
        rw [HROW.out, List.eq_nil_of_length_eq_zero hz, List.map_nil, rowOf_nil8]
        exact ⟨.slice none 0 0, rfl, ksb_none _ _ _ _ _ _ _, keep_stored HLAY.out (Nat.le_succ _) _ _ _ _⟩
      have hz1 : ((R.length : Int) == 0) = false := beq_eq_false_iff_ne.2 (by omega)
      by_cases h1 : R.length = 1
      · have h11 : ((R.length : Int) == 1) = true := by rw [h1]; rfl
        obtain ⟨p, hp⟩ : ∃ p, R = [p] := List.length_eq_one_iff.1 h1
        have hkp := HKB.out p (by rw [hp]; simp)
        obtain ⟨_, ⟨hu, h0⟩ | ⟨g, cap, hu, hg, hgl, _, _, hcell, _⟩⟩ := id HRK.out
        · exact absurd h0 hz
        obtain ⟨rfl, rfl⟩ : au = some ⟨g, 0, none⟩ ∧ cu = cap := by simpa using hu
        have e0 := hcell 0 (by rw [hp]; simp [flatK])
        have e1 := hcell 1 (by rw [hp]; simp [flatK])
        have e2 := hcell 2 (by rw [hp]; simp [flatK])
        have e3 := hcell 3 (by rw [hp]; simp [flatK])
        rw [hp] at e0 e1 e2 e3
        simp only [flatK, List.cons_append, List.nil_append, List.getElem?_cons_zero, List.getElem?_cons_succ] at e0 e1 e2 e3
        have HW := Lib.hid (show rowOf 8 (R.map (·.2)) = p.2 by rw [hp]; rfl)
        obtain ⟨pv, px⟩ := p
        simp only at e0 e1 e2 e3 HW hkp
        obtain ⟨ap, cp, rfl⟩ := (KsB.at _ _ hkp).shape
        have HKP := Lib.hid hkp
        have hpos : 0 < R.length := by omega
        clear hcell hu hp hkp
        go_wp2_with fail
        have hq := HBX.out.all (.int .i64 px.op) (.string px.name) (.string px.text) (.slice ap px.kids.length cp)
        unfold stored at hq
        obtain ⟨q0, q1, q2, q3, _, _, _, _⟩ := hq
        refine bodyPost_ret (v := .agg #[.int .i64 px.op, .string px.name, .string px.text, .slice ap px.kids.length cp]) (by simp [results, Tryz.results19, go_sem, q0, q1, q2, q3]) rfl ?_
        unfold FoldP
        rw [HROW.out, HW.out]
        refine ⟨_, rfl, ?_, keep_stored HLAY.out (Nat.le_succ _) _ _ _ _⟩
        exact KsB.mono (fun j _ hj => hj.1.elim (fun h => .inl h.1) (fun h => .inr (by omega))) _ _ (KsB.keep (Nat.le_of_eq (stored_size _ _ _ _).symm) (fun j hj _ => stored_other (by have := hj.1.imp (fun h => h.2) id; omega) _ _ _ _) _ _ HKP.out)
      · have h11 : ((R.length : Int) == 1) = false := beq_eq_false_iff_ne.2 (by omega)
        go_wp2_with fail
        have hq := HBX.out.all (.int .i64 8) (.string ⟨#[]⟩) (.string ⟨#[]⟩) (.slice au R.length cu)
        unfold stored at hq
        obtain ⟨q0, q1, q2, q3, _, _, _, _⟩ := hq
        refine bodyPost_ret (v := .agg #[.int .i64 8, .string ⟨#[]⟩, .string ⟨#[]⟩, .slice au R.length cu]) (by simp [results, Tryz.results19, go_sem, q0, q1, q2, q3]) rfl ?_
        unfold FoldP
        rw [HROW.out, rowOf_many 8 _ (by rw [List.length_map]; omega)]
        refine ⟨.slice au R.length cu, rfl, ?_, keep_stored HLAY.out (Nat.le_succ _) _ _ _ _⟩
        have hoth : ∀ j, ((G j ∧ j < w.heap.size) ∨ B ≤ j) → (stored wr (w.heap.size + 1) (.int .i64 8) (.string ⟨#[]⟩) (.string ⟨#[]⟩) (.slice au R.length cu)).heap[j]? = wr.heap[j]? := fun j hj => stored_other (by have := hj.imp (fun h => h.2) id; omega) _ _ _ _
        have hs : wr.heap.size ≤ (stored wr (w.heap.size + 1) (.int .i64 8) (.string ⟨#[]⟩) (.string ⟨#[]⟩) (.slice au R.length cu)).heap.size := Nat.le_of_eq (stored_size _ _ _ _).symm
        exact KsB.mono (fun j _ hj => hj.elim (fun h => .inl h.1) (fun h => .inr (by omega))) _ _ (KsB.of_rk (G0 := fun j => (G j ∧ j < w.heap.size) ∨ B ≤ j) (fun j hj => .inr hj) (HRK.out.carry hs fun j hj _ _ => hoth j (.inr hj)) (fun p hp => KsB.mono (fun j _ hj => hj.1) _ _ (KsB.keep hs (fun j hj _ => hoth j hj.1) _ _ (HKB.out p hp))) hrl _ _ _)

set_option maxHeartbeats 4000000 in
set_option maxRecDepth 100000 in
theorem fold_leaf (o : Int) (ho : o < 7) (n t : ByteArray) (k : List Ft) (G : Nat → Prop) (a : Option Addr) (c : Nat) (w : World) (hks : KsB G w (.slice a k.length c) (.mk o n t k)) :
    Calls Tryz.prog 19 #[.agg #[.int .i64 o, .string n, .string t, .slice a k.length c]] w (FoldP G (.mk o n t k) w) := by
  have h7 : decide (o < 7) = true := decide_eq_true ho
  have HK := Lib.hid hks
  clear hks
  go_enter Tryz.func19, Tryz.ntmps19
  go_wp2_with fail
  refine bodyPost_ret (v := .agg #[.int .i64 o, .string n, .string t, .slice a k.length c]) (by simp [results, Tryz.results19, go_sem]) rfl ?_
  unfold FoldP
  rw [Nr.fold, if_pos ho]
  refine ⟨_, rfl, ?_, ((Keep.refl _ _).alloc _).alloc _⟩
  exact KsB.mono (fun j _ hj => .inl hj) _ _ (KsB.keep (by simp; omega) (fun j _ hj => by rw [Below.heap_alloc _ _ _ (by simp; omega), Below.heap_alloc _ _ _ hj]) _ _ HK.out)

theorem fold_any {f : Ft} (h : Nr.Nn f) : f.count ≤ 1000 → FoldOK f := by
  induction h with
  | const o h =>
    intro _ G w kv hks
    obtain ⟨a, c, rfl⟩ := (KsB.at _ _ hks).shape
    exact fold_leaf o (by omega) _ _ [] G a c w hks
  | leaf o n t h =>
    intro _ G w kv hks
    obtain ⟨a, c, rfl⟩ := (KsB.at _ _ hks).shape
    exact fold_leaf o (by omega) n t [] G a c w hks
  | not o n t h =>
    intro _ G w kv hks
    obtain ⟨a, c, rfl⟩ := (KsB.at _ _ hks).shape
    exact fold_leaf 6 (by decide) _ _ [.mk o n t []] G a c w hks
  | row o k h hk ih =>
    intro hc G w kv hks
    obtain ⟨a, c, rfl⟩ := (KsB.at _ _ hks).shape
    rw [Ft.count] at hc
    have hkk : ∀ x ∈ k, FoldOK x := fun x hx => ih x hx (by have := counts_in hx; omega)
    have hn : ∀ x ∈ k, (Nr.fold x).count ≤ x.count := fun x hx => Nr.fold_count (hk x hx)
    rcases h with rfl | rfl
    · exact fold_row_7 k (by omega) hn hkk G a c w hks
    · exact fold_row_8 k (by omega) hn hkk G a c w hks

set_option maxHeartbeats 4000000 in
set_option maxRecDepth 100000 in
/-- The document's own Filter: the plain form, in memory of its own. -/
theorem refFilter_any {f : Ft} (h : Nr.Gd f) (hc : f.count ≤ 400) (w : World) (kv : Value) (hks : KsAt w kv f) :
    Calls Tryz.prog 9 #[f.val kv] w fun e w' => ∃ kv', e = .returned ((Nr.norm f).val kv') ∧ KsB (fun j => w.heap.size ≤ j) w' kv' (Nr.norm f) ∧ Lay w w' := by
  obtain ⟨a, c, rfl⟩ := hks.shape
  have hl0 : Lay w ((w.alloc (.cells #[.int .i64 f.op, .string f.name, .string f.text, .slice a f.kids.length c] 26)).alloc (.cells #[.int .i64 0, .string ⟨#[]⟩, .string ⟨#[]⟩, .slice none 0 0] 26)) := ((Keep.refl _ _).alloc _).alloc _
  have hbx : Bx ((w.alloc (.cells #[.int .i64 f.op, .string f.name, .string f.text, .slice a f.kids.length c] 26)).alloc (.cells #[.int .i64 0, .string ⟨#[]⟩, .string ⟨#[]⟩, .slice none 0 0] 26)) (w.heap.size + 1) (.int .i64 0) (.string ⟨#[]⟩) (.string ⟨#[]⟩) (.slice none 0 0) :=
    ⟨by go_simp, by go_simp, by go_simp, by go_simp, by go_simp, by go_simp, by go_simp, by go_simp⟩
  have hn := nots_any h (by omega) false _ _ (KsAt.below hl0.below _ _ hks)
  have hfo : FoldOK (Nr.nots false f) := fold_any (Nr.nots_nn h false) (by have := Nr.nots_count h false; omega)
  unfold NotsP at hn
  have hnorm : Nr.fold (Nr.nots false f) = Nr.norm f := rfl
  generalize hX : Nr.nots false f = X at hn hfo hnorm
  have HN := Lib.hid hn
  have HFO := Lib.hid hfo
  have HL0 := Lib.hid hl0
  have HBX := Lib.hid hbx
  have HNM := Lib.hid hnorm
  clear hn hfo hl0 hbx hks hX hnorm
  simp only [Ft.val] at HN
  simp only [Ft.val]
  go_enter Tryz.func9, Tryz.ntmps9
  go_wp2_with (first | (go_at_call 20; refine HN.out.mono ?_; rintro e6 w6 ⟨kv6, rfl, hkb6, hl6⟩; obtain ⟨ak6, ck6, rfl⟩ := (KsB.at _ _ hkb6).shape; have hf := HFO.out _ _ _ hkb6; unfold FoldP at hf; simp only [Ft.val] at hf; have HF := Lib.hid hf; clear hf) | (go_at_call 19; refine HF.out.mono ?_; rintro e7 w7 ⟨kv7, rfl, hkb7, hl7⟩; obtain ⟨ak7, ck7, rfl⟩ := (KsB.at _ _ hkb7).shape; have hbx7 := HBX.out.carry (W' := w7) ((hl7.block (Nat.lt_of_lt_of_le (by simp) hl6.size)).trans (hl6.block (by simp))); obtain ⟨c0, c1, c2, c3, f0, f1, f2, f3⟩ := id hbx7))
  rw [HNM.out] at hkb7
  have hq := hbx7.all (.int .i64 (Nr.norm f).op) (.string (Nr.norm f).name) (.string (Nr.norm f).text) (.slice ak7 (Nr.norm f).kids.length ck7)
  unfold stored at hq
  obtain ⟨q0, q1, q2, q3, _, _, _, _⟩ := hq
  refine bodyPost_ret (v := .agg #[.int .i64 (Nr.norm f).op, .string (Nr.norm f).name, .string (Nr.norm f).text, .slice ak7 (Nr.norm f).kids.length ck7]) (by simp [results, Tryz.results9, go_sem, q0, q1, q2, q3, HNM.out]) rfl ?_
  rw [HNM.out]
  refine ⟨_, rfl, ?_, keep_stored ((HL0.out.trans hl6).trans hl7) (Nat.le_succ _) _ _ _ _⟩
  have hs6 := hl6.size
  refine KsB.mono (fun j _ hj => ?_) _ _ (KsB.keep (Nat.le_of_eq (stored_size _ _ _ _).symm) (fun j hj _ => stored_other (by simp at hj hs6; omega) _ _ _ _) _ _ hkb7)
  simp at hj hs6
  omega

end Go.Proofs.YtkckgjanfiiieaaGreatDoor
