/-
  THE PROGRAM'S OWN PLAIN FORM OF A FILTER: norm.plain, norm.Filter.
-/
import Derived.Test.YtkckgjanfiiieaaGreatDoorPo10
namespace Go.Proofs.YtkckgjanfiiieaaGreatDoor
open Go.RowKit Go

/-- A filter, returned in memory of its own. -/
def NewF (X : Ft) (w : World) (e : Ending) (w' : World) : Prop := ∃ kv, e = .returned (X.val kv) ∧ KsB (fun j => w.heap.size ≤ j) w' kv X ∧ Lay w w'

theorem leaf_any {f : Ft} (o : Int) (n t : ByteArray) (hf : f = .mk o n t []) (h : ((o = 1 ∨ o = 2) ∧ n = Nr.e0 ∧ t = Nr.e0) ∨ o = 3 ∨ o = 4 ∨ o = 5) (b : Bool) (w : World) (kv : Value) (hks : KsAt w kv f) : Calls Tryz.prog 27 #[f.val kv, .bool b] w (NewF (pl b f) w) := by
  subst hf
  obtain ⟨a, c, rfl⟩ := hks.shape
  cases b with
  | false =>
    refine (leaf_no o n t a 0 c w).mono ?_
    rintro e w' ⟨rfl, hl⟩
    have hp : pl false (.mk o n t []) = .mk o n t [] := by
      unfold pl
      rcases h with ⟨h, rfl, rfl⟩ | h
      · rw [Nr.nots_const _ o h, Nr.fold]; rw [if_pos (by simp; omega)]; rfl
      · rw [Nr.nots_leaf _ o n t h]; simp only [Bool.false_eq_true, if_false]; rw [Nr.fold, if_pos (by omega)]
    rw [hp]
    exact ⟨.slice none 0 0, rfl, ksb_none _ _ _ _ _ _ _, hl⟩
  | true =>
    rcases h with ⟨h, rfl, rfl⟩ | h
    · refine (leaf_const o h _ _ a 0 c w).mono ?_
      rintro e w' ⟨rfl, hl⟩
      have hp : pl true (.mk o Nr.e0 Nr.e0 []) = .mk (3 - o) Nr.e0 Nr.e0 [] := by
        unfold pl
        rw [Nr.nots_const _ o h, Nr.fold]; rw [if_pos (by simp; omega)]; rfl
      rw [hp]
      exact ⟨.slice none 0 0, rfl, ksb_none _ _ _ _ _ _ _, hl⟩
    · refine (leaf_yes o h n t a 0 c w).mono ?_
      rintro e w' ⟨kv, rfl, hk, hl⟩
      have hp : pl true (.mk o n t []) = .mk 6 Nr.e0 Nr.e0 [.mk o n t []] := by
        unfold pl
        rw [Nr.nots_leaf _ o n t h]; simp only [if_true]; rw [Nr.fold, if_pos (by decide)]
      rw [hp]
      exact ⟨kv, rfl, hk, hl⟩

set_option maxHeartbeats 4000000 in
set_option maxRecDepth 100000 in
theorem plain_leaf {f X : Ft} (ho : f.op < 6) (b : Bool) (w : World) (kv : Value) (hks : KsAt w kv f) (hcall : ∀ W kv, KsAt W kv f → Calls Tryz.prog 27 #[f.val kv, .bool b] W (NewF X W)) : Calls Tryz.prog 18 #[f.val kv, .bool b] w (NewF X w) := by
  obtain ⟨a, c, rfl⟩ := hks.shape
  have h7 : (f.op == 7) = false := beq_eq_false_iff_ne.2 (by omega)
  have h8 : (f.op == 8) = false := beq_eq_false_iff_ne.2 (by omega)
  have h6 : (f.op == 6) = false := beq_eq_false_iff_ne.2 (by omega)
  have hb0 : Lay w ((w.alloc (.cells #[.int .i64 f.op, .string f.name, .string f.text, .slice a f.kids.length c] 26)).alloc (.cells #[.int .i64 0, .string ⟨#[]⟩, .string ⟨#[]⟩, .slice none 0 0] 26)) := ((Keep.refl _ _).alloc _).alloc _
  have hbx : Bx ((w.alloc (.cells #[.int .i64 f.op, .string f.name, .string f.text, .slice a f.kids.length c] 26)).alloc (.cells #[.int .i64 0, .string ⟨#[]⟩, .string ⟨#[]⟩, .slice none 0 0] 26)) (w.heap.size + 1) (.int .i64 0) (.string ⟨#[]⟩) (.string ⟨#[]⟩) (.slice none 0 0) :=
    ⟨by go_simp, by go_simp, by go_simp, by go_simp, by go_simp, by go_simp, by go_simp, by go_simp⟩
  have HD := Lib.hid (hcall _ (.slice a f.kids.length c) (KsAt.below hb0.below _ _ hks))
  have HB0 := Lib.hid hb0
  have HX0 := Lib.hid hbx
  clear hbx hb0 hks hcall
  simp only [Ft.val] at HD
  simp only [Ft.val]
  go_enter Tryz.func18, Tryz.ntmps18
  go_wp2_with fail
  refine HD.out.mono ?_
  rintro e w' ⟨kv', rfl, hkb', hl'⟩
  obtain ⟨ak', ck', rfl⟩ := (KsB.at _ _ hkb').shape
  have hbx' := HX0.out.carry (W' := w') (hl'.block (by simp))
  have HX1 := Lib.hid hbx'
  have HKB := Lib.hid hkb'
  have HL := Lib.hid hl'
  clear HX0 HD hkb' hl'
  obtain ⟨c0, c1, c2, c3, f0, f1, f2, f3⟩ := hbx'
  simp only [Ft.val]
  go_wp2_with fail
  have hq := HX1.out.all (.int .i64 X.op) (.string X.name) (.string X.text) (.slice ak' X.kids.length ck')
  unfold stored at hq
  obtain ⟨q0, q1, q2, q3, _, _, _, _⟩ := hq
  refine bodyPost_ret (v := .agg #[.int .i64 X.op, .string X.name, .string X.text, .slice ak' X.kids.length ck']) (by simp [results, Tryz.results18, go_sem, q0, q1, q2, q3]) rfl ?_
  refine ⟨_, rfl, ?_, keep_stored (HB0.out.trans HL.out) (Nat.le_succ _) _ _ _ _⟩
  exact KsB.keep (Nat.le_of_eq (stored_size _ _ _ _).symm) (fun j hj _ => stored_other (by simp at hj; omega) _ _ _ _) _ _ HKB.out |> KsB.mono (fun j _ hj => by simp at hj; omega) _ _

set_option maxHeartbeats 4000000 in
set_option maxRecDepth 100000 in
theorem plain_row {f X : Ft} (ho : f.op = 7 ∨ f.op = 8) (b : Bool) (w : World) (kv : Value) (hks : KsAt w kv f) (hcall : ∀ W kv, KsAt W kv f → Calls Tryz.prog 26 #[f.val kv, .bool b] W (NewF X W)) : Calls Tryz.prog 18 #[f.val kv, .bool b] w (NewF X w) := by
  obtain ⟨a, c, rfl⟩ := hks.shape
  have hb0 : Lay w ((w.alloc (.cells #[.int .i64 f.op, .string f.name, .string f.text, .slice a f.kids.length c] 26)).alloc (.cells #[.int .i64 0, .string ⟨#[]⟩, .string ⟨#[]⟩, .slice none 0 0] 26)) := ((Keep.refl _ _).alloc _).alloc _
  have hbx : Bx ((w.alloc (.cells #[.int .i64 f.op, .string f.name, .string f.text, .slice a f.kids.length c] 26)).alloc (.cells #[.int .i64 0, .string ⟨#[]⟩, .string ⟨#[]⟩, .slice none 0 0] 26)) (w.heap.size + 1) (.int .i64 0) (.string ⟨#[]⟩) (.string ⟨#[]⟩) (.slice none 0 0) :=
    ⟨by go_simp, by go_simp, by go_simp, by go_simp, by go_simp, by go_simp, by go_simp, by go_simp⟩
  have HD := Lib.hid (hcall _ (.slice a f.kids.length c) (KsAt.below hb0.below _ _ hks))
  have HB0 := Lib.hid hb0
  have HX0 := Lib.hid hbx
  clear hbx hb0 hks hcall
  simp only [Ft.val] at HD
  simp only [Ft.val]
  rcases ho with ho | ho
  · have h7 : (f.op == 7) = true := beq_iff_eq.2 ho
    clear ho
    go_enter Tryz.func18, Tryz.ntmps18
    go_wp2_with fail
    refine HD.out.mono ?_
    rintro e w' ⟨kv', rfl, hkb', hl'⟩
    obtain ⟨ak', ck', rfl⟩ := (KsB.at _ _ hkb').shape
    have hbx' := HX0.out.carry (W' := w') (hl'.block (by simp))
    have HX1 := Lib.hid hbx'
    have HKB := Lib.hid hkb'
    have HL := Lib.hid hl'
    clear HX0 HD hkb' hl'
    obtain ⟨c0, c1, c2, c3, f0, f1, f2, f3⟩ := hbx'
    simp only [Ft.val]
    go_wp2_with fail
    have hq := HX1.out.all (.int .i64 X.op) (.string X.name) (.string X.text) (.slice ak' X.kids.length ck')
    unfold stored at hq
    obtain ⟨q0, q1, q2, q3, _, _, _, _⟩ := hq
    refine bodyPost_ret (v := .agg #[.int .i64 X.op, .string X.name, .string X.text, .slice ak' X.kids.length ck']) (by simp [results, Tryz.results18, go_sem, q0, q1, q2, q3]) rfl ?_
    refine ⟨_, rfl, ?_, keep_stored (HB0.out.trans HL.out) (Nat.le_succ _) _ _ _ _⟩
    exact KsB.keep (Nat.le_of_eq (stored_size _ _ _ _).symm) (fun j hj _ => stored_other (by simp at hj; omega) _ _ _ _) _ _ HKB.out |> KsB.mono (fun j _ hj => by simp at hj; omega) _ _
  · have h8 : (f.op == 8) = true := beq_iff_eq.2 ho; have h7 : (f.op == 7) = false := beq_eq_false_iff_ne.2 (by omega)
    clear ho
    go_enter Tryz.func18, Tryz.ntmps18
    go_wp2_with fail
    refine HD.out.mono ?_
    rintro e w' ⟨kv', rfl, hkb', hl'⟩
    obtain ⟨ak', ck', rfl⟩ := (KsB.at _ _ hkb').shape
    have hbx' := HX0.out.carry (W' := w') (hl'.block (by simp))
    have HX1 := Lib.hid hbx'
    have HKB := Lib.hid hkb'
    have HL := Lib.hid hl'
    clear HX0 HD hkb' hl'
    obtain ⟨c0, c1, c2, c3, f0, f1, f2, f3⟩ := hbx'
    simp only [Ft.val]
    go_wp2_with fail
    have hq := HX1.out.all (.int .i64 X.op) (.string X.name) (.string X.text) (.slice ak' X.kids.length ck')
    unfold stored at hq
    obtain ⟨q0, q1, q2, q3, _, _, _, _⟩ := hq
    refine bodyPost_ret (v := .agg #[.int .i64 X.op, .string X.name, .string X.text, .slice ak' X.kids.length ck']) (by simp [results, Tryz.results18, go_sem, q0, q1, q2, q3]) rfl ?_
    refine ⟨_, rfl, ?_, keep_stored (HB0.out.trans HL.out) (Nat.le_succ _) _ _ _ _⟩
    exact KsB.keep (Nat.le_of_eq (stored_size _ _ _ _).symm) (fun j hj _ => stored_other (by simp at hj; omega) _ _ _ _) _ _ HKB.out |> KsB.mono (fun j _ hj => by simp at hj; omega) _ _

set_option maxHeartbeats 4000000 in
set_option maxRecDepth 100000 in
theorem plain_not {f X : Ft} (b : Bool) (w : World) (kv : Value) (hks : KsAt w kv (.mk 6 Nr.e0 Nr.e0 [f])) (hcall : ∀ W kv, KsAt W kv f → Calls Tryz.prog 18 #[f.val kv, .bool (!b)] W (NewF X W)) : Calls Tryz.prog 18 #[(Ft.mk 6 Nr.e0 Nr.e0 [f]).val kv, .bool b] w (NewF X w) := by
  obtain ⟨a, c, hsh⟩ := hks.shape
  obtain rfl : kv = .slice a 1 c := hsh
  have hb0 : Lay w ((w.alloc (.cells #[.int .i64 (6 : Int), .string Nr.e0, .string Nr.e0, .slice a 1 c] 26)).alloc (.cells #[.int .i64 0, .string ⟨#[]⟩, .string ⟨#[]⟩, .slice none 0 0] 26)) := ((Keep.refl _ _).alloc _).alloc _
  have hbx : Bx ((w.alloc (.cells #[.int .i64 (6 : Int), .string Nr.e0, .string Nr.e0, .slice a 1 c] 26)).alloc (.cells #[.int .i64 0, .string ⟨#[]⟩, .string ⟨#[]⟩, .slice none 0 0] 26)) (w.heap.size + 1) (.int .i64 0) (.string ⟨#[]⟩) (.string ⟨#[]⟩) (.slice none 0 0) :=
    ⟨by go_simp, by go_simp, by go_simp, by go_simp, by go_simp, by go_simp, by go_simp, by go_simp⟩
  have hk0 := KsAt.below hb0.below _ _ hks
  rw [KsAt] at hk0
  obtain ⟨a', cap, he, hl63, h0 | ⟨bk, off, rfl, hbl, hka⟩⟩ := hk0
  · cases h0
  obtain ⟨rfl, rfl⟩ : a = some ⟨bk, off, none⟩ ∧ c = cap := by simpa using he
  obtain ⟨kv, x0, x1, x2, x3, x4⟩ := KAt.get hka 0 (by simp)
  simp only [Nat.zero_mul, Nat.add_zero, List.getElem_cons_zero] at x0 x1 x2 x3 x4
  obtain ⟨ak, ck, rfl⟩ := x4.shape
  have HD := Lib.hid (hcall _ _ x4)
  clear hka x4 he
  have HB0 := Lib.hid hb0
  have HX0 := Lib.hid hbx
  clear hbx hb0 hks hcall
  simp only [Ft.val] at HD
  change Calls Tryz.prog 18 #[.agg #[.int .i64 6, .string Nr.e0, .string Nr.e0, .slice (some ⟨bk, off, none⟩) 1 c], .bool b] w (NewF X w)
  go_enter Tryz.func18, Tryz.ntmps18
  go_wp2_with fail
  refine HD.out.mono ?_
  rintro e w' ⟨kv', rfl, hkb', hl'⟩
  obtain ⟨ak', ck', rfl⟩ := (KsB.at _ _ hkb').shape
  have hbx' := HX0.out.carry (W' := w') (hl'.block (by simp))
  have HX1 := Lib.hid hbx'
  have HKB := Lib.hid hkb'
  have HL := Lib.hid hl'
  clear HX0 HD hkb' hl'
  obtain ⟨c0, c1, c2, c3, f0, f1, f2, f3⟩ := hbx'
  simp only [Ft.val]
  go_wp2_with fail
  have hq := HX1.out.all (.int .i64 X.op) (.string X.name) (.string X.text) (.slice ak' X.kids.length ck')
  unfold stored at hq
  obtain ⟨q0, q1, q2, q3, _, _, _, _⟩ := hq
  refine bodyPost_ret (v := .agg #[.int .i64 X.op, .string X.name, .string X.text, .slice ak' X.kids.length ck']) (by simp [results, Tryz.results18, go_sem, q0, q1, q2, q3]) rfl ?_
  refine ⟨_, rfl, ?_, keep_stored (HB0.out.trans HL.out) (Nat.le_succ _) _ _ _ _⟩
  exact KsB.keep (Nat.le_of_eq (stored_size _ _ _ _).symm) (fun j hj _ => stored_other (by simp at hj; omega) _ _ _ _) _ _ HKB.out |> KsB.mono (fun j _ hj => by simp at hj; omega) _ _

set_option maxHeartbeats 4000000 in
set_option maxRecDepth 100000 in
theorem filter_of {f X : Ft} (w : World) (kv : Value) (hks : KsAt w kv f) (hcall : ∀ W kv, KsAt W kv f → Calls Tryz.prog 18 #[f.val kv, .bool false] W (NewF X W)) : Calls Tryz.prog 8 #[f.val kv] w (NewF X w) := by
  obtain ⟨a, c, rfl⟩ := hks.shape
  have hb0 : Lay w ((w.alloc (.cells #[.int .i64 f.op, .string f.name, .string f.text, .slice a f.kids.length c] 26)).alloc (.cells #[.int .i64 0, .string ⟨#[]⟩, .string ⟨#[]⟩, .slice none 0 0] 26)) := ((Keep.refl _ _).alloc _).alloc _
  have hbx : Bx ((w.alloc (.cells #[.int .i64 f.op, .string f.name, .string f.text, .slice a f.kids.length c] 26)).alloc (.cells #[.int .i64 0, .string ⟨#[]⟩, .string ⟨#[]⟩, .slice none 0 0] 26)) (w.heap.size + 1) (.int .i64 0) (.string ⟨#[]⟩) (.string ⟨#[]⟩) (.slice none 0 0) :=
    ⟨by go_simp, by go_simp, by go_simp, by go_simp, by go_simp, by go_simp, by go_simp, by go_simp⟩
  have HD := Lib.hid (hcall _ (.slice a f.kids.length c) (KsAt.below hb0.below _ _ hks))
  have HB0 := Lib.hid hb0
  have HX0 := Lib.hid hbx
  clear hbx hb0 hks hcall
  simp only [Ft.val] at HD
  simp only [Ft.val]
  go_enter Tryz.func8, Tryz.ntmps8
  go_wp2_with fail
  refine HD.out.mono ?_
  rintro e w' ⟨kv', rfl, hkb', hl'⟩
  obtain ⟨ak', ck', rfl⟩ := (KsB.at _ _ hkb').shape
  have hbx' := HX0.out.carry (W' := w') (hl'.block (by simp))
  have HX1 := Lib.hid hbx'
  have HKB := Lib.hid hkb'
  have HL := Lib.hid hl'
  clear HX0 HD hkb' hl'
  obtain ⟨c0, c1, c2, c3, f0, f1, f2, f3⟩ := hbx'
  simp only [Ft.val]
  go_wp2_with fail
  have hq := HX1.out.all (.int .i64 X.op) (.string X.name) (.string X.text) (.slice ak' X.kids.length ck')
  unfold stored at hq
  obtain ⟨q0, q1, q2, q3, _, _, _, _⟩ := hq
  refine bodyPost_ret (v := .agg #[.int .i64 X.op, .string X.name, .string X.text, .slice ak' X.kids.length ck']) (by simp [results, Tryz.results8, go_sem, q0, q1, q2, q3]) rfl ?_
  refine ⟨_, rfl, ?_, keep_stored (HB0.out.trans HL.out) (Nat.le_succ _) _ _ _ _⟩
  exact KsB.keep (Nat.le_of_eq (stored_size _ _ _ _).symm) (fun j hj _ => stored_other (by simp at hj; omega) _ _ _ _) _ _ HKB.out |> KsB.mono (fun j _ hj => by simp at hj; omega) _ _

theorem plain_any {f : Ft} (h : Nr.Gd f) : f.count ≤ 40000 → ∀ (b : Bool) (w : World) (kv : Value), KsAt w kv f → Calls Tryz.prog 18 #[f.val kv, .bool b] w (NewF (pl b f) w) := by
  induction h with
  | const o h => exact fun _ b w kv hks => plain_leaf (by show o < 6; omega) b w kv hks fun W kv hk => leaf_any o _ _ rfl (.inl ⟨h, rfl, rfl⟩) b W kv hk
  | leaf o n t h => exact fun _ b w kv hks => plain_leaf (by show o < 6; omega) b w kv hks fun W kv hk => leaf_any o _ _ rfl (.inr h) b W kv hk
  | not x _ ih =>
    intro hc b w kv hks
    rw [Ft.count, Ft.counts, Ft.counts] at hc
    have hp : pl b (.mk 6 Nr.e0 Nr.e0 [x]) = pl (!b) x := by
      unfold pl
      rw [Nr.nots_not]
    rw [hp]
    exact plain_not b w kv hks fun W kv hk => ih (by omega) (!b) W kv hk
  | row o k h h2 hk ih =>
    intro hc b w kv hks
    rw [Ft.count] at hc
    refine plain_row (by show o = 7 ∨ o = 8; exact h) b w kv hks fun W kv hkk => ?_
    obtain ⟨a, c, rfl⟩ := hkk.shape
    have hn : ∀ x ∈ k, (pl b x).count ≤ 2 * x.count := fun x hx => pl_count (hk x hx) b
    have hp : ∀ x ∈ k, 1 ≤ (pl b x).op := fun x hx => pl_op (hk x hx) b
    have ho : ∀ x ∈ k, PlainOK b x := fun x hx G W kv hkx => (ih x hx (by have := counts_in hx; omega) b W kv hkx).mono fun e w' ⟨kv', h1, h2, h3⟩ => ⟨kv', h1, KsB.mono (fun _ _ h => .inr h) _ _ h2, h3⟩
    have key : Calls Tryz.prog 26 #[.agg #[.int .i64 o, .string Nr.e0, .string Nr.e0, .slice a k.length c], .bool b] W (PlainP (fun _ => False) b (.mk o Nr.e0 Nr.e0 k) W) := by
      rcases h with rfl | rfl
      · cases b
        · exact row_7 7 false (.inl ⟨rfl, rfl⟩) k (by omega) hn hp ho _ a c W hkk
        · exact row_8 7 true (.inr ⟨rfl, rfl⟩) k (by omega) hn hp ho _ a c W hkk
      · cases b
        · exact row_8 8 false (.inl ⟨rfl, rfl⟩) k (by omega) hn hp ho _ a c W hkk
        · exact row_7 8 true (.inr ⟨rfl, rfl⟩) k (by omega) hn hp ho _ a c W hkk
    exact key.mono fun e w' ⟨kv', h1, h2, h3⟩ => ⟨kv', h1, KsB.mono (fun _ _ h => h.resolve_left id) _ _ h2, h3⟩

/-- norm.Filter: the plain form, in memory of its own. -/
theorem ownNorm_any {f : Ft} (h : Nr.Gd f) (hc : f.count ≤ 40000) (w : World) (kv : Value) (hks : KsAt w kv f) : Calls Tryz.prog 8 #[f.val kv] w (NewF (Nr.norm f) w) := filter_of w kv hks fun W kv hk => plain_any h hc false W kv hk

end Go.Proofs.YtkckgjanfiiieaaGreatDoor
