/-
  match.Line OF FILTERS WITH KIDS, and of all.
-/
import Derived.Test.YtidjodplimkmgaaLn9
namespace Go.Proofs.Ytidjodplimkmgaa
open Go.RowKit Go

/-- What is known of a kid: Line answers so, in every world that keeps this one. -/
def KidOK (line : ByteArray) (x : Ft) : Prop := ∀ (w : World) (kv : Value), KsAt w kv x → w.ShapedOpen Try.prog → Calls Try.prog 21 #[x.val kv, .string line] w fun e w' => e = .returned (.bool (keeps line x)) ∧ Below w.heap.size w w'

theorem enters15 : ∀ args w, (callFunc 31 args).run Try.prog w = .ok (.enter 31 args) w := enters_of Try.func31 (by kernel_rfl) rfl
theorem enters16 : ∀ args w, (callFunc 32 args).run Try.prog w = .ok (.enter 32 args) w := enters_of Try.func32 (by kernel_rfl) rfl

set_option maxHeartbeats 4000000 in
set_option maxRecDepth 100000 in
theorem line_and (line n t : ByteArray) (k : List Ft) (a : Option Addr) (c : Nat) (hk : ∀ x ∈ k, KidOK line x) (w : World) (hSh : w.ShapedOpen Try.prog) (hks : KsAt w (.slice a k.length c) (.mk 7 n t k)) :
    Calls Try.prog 21 #[.agg #[.int .i64 7, .string n, .string t, .slice a k.length c], .string line] w fun e w' => e = .returned (.bool (!k.any (fun x => !keeps line x))) ∧ Below w.heap.size w w' := by
  have hb0 : Below w.heap.size w ((w.alloc (.cells #[.int .i64 7, .string n, .string t, .slice a k.length c] 29)).alloc (.cells #[.string line] 9)) := ((Below.refl _ w).alloc (Nat.le_refl _) _).alloc (by simp) _
  have hc0 : ((w.alloc (.cells #[.int .i64 7, .string n, .string t, .slice a k.length c] 29)).alloc (.cells #[.string line] 9)).cell? ⟨w.heap.size + 1, 0, none⟩ = some (.string line) := by
    have := World.cell?_alloc_new (w.alloc (.cells #[.int .i64 7, .string n, .string t, .slice a k.length c] 29)) #[.string line] 9 0
    rw [World.size_alloc] at this
    exact this
  have HK0 := Lib.hid (KsAt.below hb0 _ _ hks)
  have HS0 := Lib.hid (shaped_below hSh hb0)
  have HB0 := Lib.hid hb0
  have HC0 := Lib.hid hc0
  have HKK := Lib.hid hk
  have hcont : Hid (Calls Try.prog 36 #[.slice a k.length c, .func (.func 32) #[] #[.pointer (some ⟨w.heap.size + 1, 0, none⟩)]] ((w.alloc (.cells #[.int .i64 7, .string n, .string t, .slice a k.length c] 29)).alloc (.cells #[.string line] 9)) fun e w' => e = .returned (.bool (k.any (fun x => !keeps line x))) ∧ Below ((w.alloc (.cells #[.int .i64 7, .string n, .string t, .slice a k.length c] 29)).alloc (.cells #[.string line] 9)).heap.size ((w.alloc (.cells #[.int .i64 7, .string n, .string t, .slice a k.length c] 29)).alloc (.cells #[.string line] 9)) w') :=
    Lib.hid (contains_kids 32 _ enters16 (fun x => !keeps line x) 7 n t k a c _ HK0.out fun W x kv hW hx hkv => by
      obtain ⟨ak, ck, he⟩ := hkv.shape
      exact drops_fn line x kv ak _ ck he (keeps line x) W _ (by rw [hW.cell (World.block_lt_of_cell? _ _ HC0.out)]; exact HC0.out) fun W' hW' => HKK.out x hx W' kv (KsAt.below hW' _ _ hkv) (shaped_below (shaped_below HS0.out hW) hW'))
  clear hSh hb0 hc0 hks hk HK0 HC0 HKK
  generalize k.any (fun x => !keeps line x) = r at hcont ⊢
  go_enter Try.func21, Try.ntmps21
  go_wp2_with (go_at_call 36; refine hcont.out.mono ?_; rintro e w' ⟨rfl, hb'⟩)
  go_ret
  exact ⟨rfl, HB0.out.trans (hb'.mono HB0.out.size)⟩

set_option maxHeartbeats 4000000 in
set_option maxRecDepth 100000 in
theorem line_or (line n t : ByteArray) (k : List Ft) (a : Option Addr) (c : Nat) (hk : ∀ x ∈ k, KidOK line x) (w : World) (hSh : w.ShapedOpen Try.prog) (hks : KsAt w (.slice a k.length c) (.mk 8 n t k)) :
    Calls Try.prog 21 #[.agg #[.int .i64 8, .string n, .string t, .slice a k.length c], .string line] w fun e w' => e = .returned (.bool (k.any (keeps line))) ∧ Below w.heap.size w w' := by
  have hb0 : Below w.heap.size w ((w.alloc (.cells #[.int .i64 8, .string n, .string t, .slice a k.length c] 29)).alloc (.cells #[.string line] 9)) := ((Below.refl _ w).alloc (Nat.le_refl _) _).alloc (by simp) _
  have hc0 : ((w.alloc (.cells #[.int .i64 8, .string n, .string t, .slice a k.length c] 29)).alloc (.cells #[.string line] 9)).cell? ⟨w.heap.size + 1, 0, none⟩ = some (.string line) := by
    have := World.cell?_alloc_new (w.alloc (.cells #[.int .i64 8, .string n, .string t, .slice a k.length c] 29)) #[.string line] 9 0
    rw [World.size_alloc] at this
    exact this
  have HK0 := Lib.hid (KsAt.below hb0 _ _ hks)
  have HS0 := Lib.hid (shaped_below hSh hb0)
  have HB0 := Lib.hid hb0
  have HC0 := Lib.hid hc0
  have HKK := Lib.hid hk
  have hcont : Hid (Calls Try.prog 36 #[.slice a k.length c, .func (.func 31) #[] #[.pointer (some ⟨w.heap.size + 1, 0, none⟩)]] ((w.alloc (.cells #[.int .i64 8, .string n, .string t, .slice a k.length c] 29)).alloc (.cells #[.string line] 9)) fun e w' => e = .returned (.bool (k.any (keeps line))) ∧ Below ((w.alloc (.cells #[.int .i64 8, .string n, .string t, .slice a k.length c] 29)).alloc (.cells #[.string line] 9)).heap.size ((w.alloc (.cells #[.int .i64 8, .string n, .string t, .slice a k.length c] 29)).alloc (.cells #[.string line] 9)) w') :=
    Lib.hid (contains_kids 31 _ enters15 (keeps line) 8 n t k a c _ HK0.out fun W x kv hW hx hkv => by
      obtain ⟨ak, ck, he⟩ := hkv.shape
      exact keeps_fn line x kv ak _ ck he (keeps line x) W _ (by rw [hW.cell (World.block_lt_of_cell? _ _ HC0.out)]; exact HC0.out) fun W' hW' => HKK.out x hx W' kv (KsAt.below hW' _ _ hkv) (shaped_below (shaped_below HS0.out hW) hW'))
  clear hSh hb0 hc0 hks hk HK0 HC0 HKK
  generalize k.any (keeps line) = r at hcont ⊢
  go_enter Try.func21, Try.ntmps21
  go_wp2_with (go_at_call 36; refine hcont.out.mono ?_; rintro e w' ⟨rfl, hb'⟩)
  go_ret
  exact ⟨rfl, HB0.out.trans (hb'.mono HB0.out.size)⟩

set_option maxHeartbeats 4000000 in
set_option maxRecDepth 100000 in
theorem line_not0 (line n t : ByteArray) (a : Option Addr) (c : Nat) (w : World) :
    Calls Try.prog 21 #[.agg #[.int .i64 6, .string n, .string t, .slice a 0 c], .string line] w fun e w' => e = .returned (.bool false) ∧ Below w.heap.size w w' := by
  have HB0 := Lib.hid (show Below w.heap.size w ((w.alloc (.cells #[.int .i64 6, .string n, .string t, .slice a 0 c] 29)).alloc (.cells #[.string line] 9)) from ((Below.refl _ w).alloc (Nat.le_refl _) _).alloc (by simp) _)
  go_enter Try.func21, Try.ntmps21
  go_wp2_with fail
  go_ret
  exact ⟨rfl, HB0.out⟩

set_option maxHeartbeats 4000000 in
set_option maxRecDepth 100000 in
theorem line_not (line n t : ByteArray) (x : Ft) (k : List Ft) (a : Option Addr) (c : Nat) (hk : KidOK line x) (w : World) (hSh : w.ShapedOpen Try.prog) (hks : KsAt w (.slice a (x :: k).length c) (.mk 6 n t (x :: k))) :
    Calls Try.prog 21 #[.agg #[.int .i64 6, .string n, .string t, .slice a (x :: k).length c], .string line] w fun e w' => e = .returned (.bool (!keeps line x)) ∧ Below w.heap.size w w' := by
  obtain ⟨W0, hW0⟩ : ∃ W0, (w.alloc (.cells #[.int .i64 6, .string n, .string t, .slice a (x :: k).length c] 29)).alloc (.cells #[.string line] 9) = W0 := ⟨_, rfl⟩
  have hb0 : Below w.heap.size w W0 := by rw [← hW0]; exact ((Below.refl _ w).alloc (Nat.le_refl _) _).alloc (by simp) _
  have hc0 : W0.cell? ⟨w.heap.size + 1, 0, none⟩ = some (.string line) := by
    have := World.cell?_alloc_new (w.alloc (.cells #[.int .i64 6, .string n, .string t, .slice a (x :: k).length c] 29)) #[.string line] 9 0
    rw [World.size_alloc, hW0] at this
    exact this
  have hk0 := KsAt.below hb0 _ _ hks
  rw [KsAt] at hk0
  obtain ⟨a', cap, he, hl63, h0 | ⟨b, off, rfl, hbl, hka⟩⟩ := hk0
  · cases h0
  obtain ⟨rfl, rfl⟩ : a = some ⟨b, off, none⟩ ∧ c = cap := by simpa using he
  obtain ⟨kv, x0, x1, x2, x3, x4⟩ := KAt.get hka 0 (by simp)
  simp only [Nat.zero_mul, Nat.add_zero, List.getElem_cons_zero] at x0 x1 x2 x3 x4
  obtain ⟨ak, ck, rfl⟩ := x4.shape
  have HD := Lib.hid (drops_fn line x _ ak _ ck rfl (keeps line x) W0 _ hc0 fun W' hW' => hk W' _ (KsAt.below hW' _ _ x4) (shaped_below (shaped_below hSh hb0) hW'))
  have HB0 := Lib.hid hb0
  have hlen : (((x :: k).length : Nat) : Int) = (k.length : Int) + 1 := by simp
  clear hSh hks hk hka hb0 hc0 x4 he
  simp only [Ft.val] at HD
  have e16 := enters16
  have hgt : decide ((0 : Int) < (((x :: k).length : Nat) : Int)) = true := by simp
  have hpos : 0 < (x :: k).length := by simp
  generalize (x :: k).length = N at hW0 hgt hpos hlen hl63 ⊢
  subst hW0
  clear hlen
  go_enter Try.func21, Try.ntmps21
  go_wp2_with fail
  refine HD.out.mono ?_
  rintro e w' ⟨rfl, hb'⟩
  go_wp2_with fail
  go_ret
  exact ⟨rfl, HB0.out.trans (hb'.mono HB0.out.size)⟩

theorem counts_in : ∀ (k : List Ft) (x : Ft), x ∈ k → x.count ≤ Ft.counts k
  | [], x, h => by simp at h
  | y :: r, x, h => by
    rw [Ft.counts]
    rcases List.mem_cons.1 h with rfl | h
    · omega
    · have := counts_in r x h
      omega

theorem count_kid {o : Int} {n t : ByteArray} {k : List Ft} {x : Ft} (h : x ∈ k) : x.count < (Ft.mk o n t k).count := by
  have := counts_in k x h
  rw [Ft.count]
  omega

theorem op_cases (o : Int) : o = 1 ∨ o = 3 ∨ o = 4 ∨ o = 5 ∨ o = 6 ∨ o = 7 ∨ o = 8 ∨ (o ≠ 1 ∧ o ≠ 3 ∧ o ≠ 4 ∧ o ≠ 5 ∧ o ≠ 6 ∧ o ≠ 7 ∧ o ≠ 8) := by omega

/-- match.Line answers what a filter keeps, whichever it is. -/
theorem line_ok (line : ByteArray) (hs : line.size ≤ 100000) : ∀ (m : Nat) (f : Ft), f.count ≤ m → Fit f → KidOK line f := by
  intro m
  induction m with
  | zero =>
    intro f h
    cases f with
    | mk o n t k => rw [Ft.count] at h; omega
  | succ m ih =>
    intro f hm hf
    obtain ⟨o, n, t, k⟩ := f
    have hk : ∀ x ∈ k, KidOK line x := fun x hx => ih x (by have := count_kid (o := o) (n := n) (t := t) hx; omega) (hf.kids x hx)
    intro w kv hkv hSh
    obtain ⟨a, c, rfl⟩ := hkv.shape
    show Calls Try.prog 21 #[.agg #[.int .i64 o, .string n, .string t, .slice a k.length c], .string line] w fun e w' => e = .returned (.bool (keeps line (.mk o n t k))) ∧ Below w.heap.size w w'
    rcases op_cases o with rfl | rfl | rfl | rfl | rfl | rfl | rfl | ho
    · rw [keeps_true]; exact line_true line n t a _ c hs w hSh
    · rw [keeps_word]; exact line_word line n t a _ c hs w hSh
    · rw [keeps_has]; exact line_has line n t a _ c hs w hSh
    · rw [keeps_field]; exact line_field line n t a _ c hs hf.name hf.text w hSh
    · cases k with
      | nil => rw [keeps_not0]; exact line_not0 line n t a c w
      | cons x k => rw [keeps_not]; exact line_not line n t x k a c (hk x (by simp)) w hSh hkv
    · rw [keeps_and, show k.all (keeps line) = !k.any (fun x => !keeps line x) by simp [List.all_eq_not_any_not]]; exact line_and line n t k a c hk w hSh hkv
    · rw [keeps_or]; exact line_or line n t k a c hk w hSh hkv
    · rw [keeps_none _ _ _ _ ho]; exact line_other line n t a _ c o ho w

theorem line_any (line : ByteArray) (hs : line.size ≤ 100000) (f : Ft) (hf : Fit f) (w : World) (v : Value) (hv : FAt w v f) (hSh : w.ShapedOpen Try.prog) :
    Calls Try.prog 21 #[v, .string line] w fun e w' => e = .returned (.bool (keeps line f)) ∧ Below w.heap.size w w' := by
  obtain ⟨kv, rfl, hk⟩ := hv
  exact line_ok line hs f.count f (Nat.le_refl _) hf w kv hk hSh

end Go.Proofs.Ytidjodplimkmgaa
