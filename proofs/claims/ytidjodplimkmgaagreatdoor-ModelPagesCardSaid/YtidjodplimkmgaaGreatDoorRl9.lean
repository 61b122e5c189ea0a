/-
  THE DOCUMENT'S OWN Line: DOES A FILTER KEEP A LINE?
-/
import Derived.Test.YtidjodplimkmgaaGreatDoorRf9
import Derived.Test.YtidjodplimkmgaaGreatDoorHr
import Derived.Test.YtidjodplimkmgaaGreatDoorLb9
namespace Go.Proofs.YtidjodplimkmgaaGreatDoor
open Go.RowKit Go

theorem tabs_below {w w' : World} (h : Lib.Utf8Tabs 1 2 w) (hb : Below w.heap.size w w') : Lib.Utf8Tabs 1 2 w' := Utf8Tabs_below h hb

set_option maxHeartbeats 4000000 in
set_option maxRecDepth 100000 in
theorem ref_word (line n t : ByteArray) (a : Option Addr) (nk c : Nat) (hs : line.size ≤ 100000) (w : World) (hT : Lib.Utf8Tabs 1 2 w) :
    Calls Tryz.prog 28 #[.agg #[.int .i64 3, .string n, .string t, .slice a nk c], .string line] w fun e w' => e = .returned (.bool (H3.hasB line t)) ∧ Below w.heap.size w w' := by
  have hb0 : Below w.heap.size w (w.alloc (.cells #[.int .i64 3, .string n, .string t, .slice a nk c] 29)) := (Below.refl _ w).alloc (Nat.le_refl _) _
  have HT0 := Lib.hid (tabs_below hT hb0)
  have HB0 := Lib.hid hb0
  clear hT hb0
  go_enter Tryz.func28, Tryz.ntmps28
  go_wp2_with (go_at_call 40; refine (H3.refHas_any line t (by omega) _ HT0.out).mono ?_; rintro e w' ⟨rfl, hb'⟩)
  go_ret
  exact ⟨rfl, by first | exact HB0.out | exact HB0.out.trans (hb'.mono HB0.out.size)⟩

set_option maxHeartbeats 4000000 in
set_option maxRecDepth 100000 in
theorem ref_has (line n t : ByteArray) (a : Option Addr) (nk c : Nat) (hs : line.size ≤ 100000) (ht : t.size ≤ 10000) (w : World) (hT : Lib.Utf8Tabs 1 2 w) :
    Calls Tryz.prog 28 #[.agg #[.int .i64 4, .string n, .string t, .slice a nk c], .string line] w fun e w' => e = .returned (.bool (Lib.contains line.data.toList t.data.toList)) ∧ Below w.heap.size w w' := by
  have hb0 : Below w.heap.size w (w.alloc (.cells #[.int .i64 4, .string n, .string t, .slice a nk c] 29)) := (Below.refl _ w).alloc (Nat.le_refl _) _
  have HT0 := Lib.hid (tabs_below hT hb0)
  have HB0 := Lib.hid hb0
  clear hT hb0
  go_enter Tryz.func28, Tryz.ntmps28
  go_wp2_with (go_at_call 41; refine (refStands_any line t hs (by omega) _).mono ?_; rintro e w' ⟨rfl, hb'⟩)
  go_ret
  exact ⟨rfl, by first | exact HB0.out | exact HB0.out.trans (hb'.mono HB0.out.size)⟩

set_option maxHeartbeats 4000000 in
set_option maxRecDepth 100000 in
theorem ref_field (line n t : ByteArray) (a : Option Addr) (nk c : Nat) (hs : line.size ≤ 100000) (hn : n.size ≤ 10000) (ht : t.size ≤ 10000) (w : World) (hT : Lib.Utf8Tabs 1 2 w) :
    Calls Tryz.prog 28 #[.agg #[.int .i64 5, .string n, .string t, .slice a nk c], .string line] w fun e w' => e = .returned (.bool (hasPiece line (n ++ ⟨#[61]⟩ ++ t))) ∧ Below w.heap.size w w' := by
  have hb0 : Below w.heap.size w (w.alloc (.cells #[.int .i64 5, .string n, .string t, .slice a nk c] 29)) := (Below.refl _ w).alloc (Nat.le_refl _) _
  have HT0 := Lib.hid (tabs_below hT hb0)
  have HB0 := Lib.hid hb0
  clear hT hb0
  go_enter Tryz.func28, Tryz.ntmps28
  go_wp2_with (go_at_call 42; refine (refPiece_any line _ hs _).mono ?_; rintro e w' ⟨rfl, hb'⟩)
  go_ret
  exact ⟨rfl, by first | exact HB0.out | exact HB0.out.trans (hb'.mono HB0.out.size)⟩

set_option maxHeartbeats 4000000 in
set_option maxRecDepth 100000 in
theorem ref_true (line n t : ByteArray) (a : Option Addr) (nk c : Nat) (_hs : line.size ≤ 100000) (w : World) (hT : Lib.Utf8Tabs 1 2 w) :
    Calls Tryz.prog 28 #[.agg #[.int .i64 1, .string n, .string t, .slice a nk c], .string line] w fun e w' => e = .returned (.bool true) ∧ Below w.heap.size w w' := by
  have hb0 : Below w.heap.size w (w.alloc (.cells #[.int .i64 1, .string n, .string t, .slice a nk c] 29)) := (Below.refl _ w).alloc (Nat.le_refl _) _
  have HT0 := Lib.hid (tabs_below hT hb0)
  have HB0 := Lib.hid hb0
  clear hT hb0
  go_enter Tryz.func28, Tryz.ntmps28
  go_wp2_with fail
  go_ret
  exact ⟨rfl, by first | exact HB0.out | exact HB0.out.trans (hb'.mono HB0.out.size)⟩

/-- What is known of a kid. -/
def RefOK (line : ByteArray) (x : Ft) : Prop := ∀ (w : World) (kv : Value), KsAt w kv x → Lib.Utf8Tabs 1 2 w → Calls Tryz.prog 28 #[x.val kv, .string line] w fun e w' => e = .returned (.bool (keeps line x)) ∧ Below w.heap.size w w'

/-- Each not has a kid. -/
inductive Whole : Ft → Prop
  | mk (o : Int) (n t : ByteArray) (k : List Ft) (h6 : o = 6 → k ≠ []) (hk : ∀ x ∈ k, Whole x) : Whole (.mk o n t k)
theorem Whole.six {n t : ByteArray} {k : List Ft} (h : Whole (.mk 6 n t k)) : k ≠ [] := by cases h with | mk _ _ _ _ h6 _ => exact h6 rfl
theorem Whole.kids {o : Int} {n t : ByteArray} {k : List Ft} (h : Whole (.mk o n t k)) : ∀ x ∈ k, Whole x := by cases h; assumption
theorem whole_leaf (o : Int) (n t : ByteArray) (ho : o ≠ 6) : Whole (.mk o n t []) := .mk o n t [] (fun h => absurd h ho) (fun _ h => by cases h)

theorem make_whole (l : List Int) : ∀ (d p : Nat), Whole (Ft.make l d p).1
  | 0, p => by
    have hn : ∀ p, (Ft.next l 2 p).1 < 2 := fun p => Ft.next_lt (by decide)
    unfold Ft.make
    simp only
    repeat' split
    · exact whole_leaf _ _ _ (by omega)
    · exact whole_leaf _ _ _ (by omega)
    · exact whole_leaf _ _ _ (by omega)
    · exact whole_leaf _ _ _ (by have := hn (Ft.next l 5 p).2; omega)
  | d + 1, p => by
    have hn : ∀ p, (Ft.next l 2 p).1 < 2 := fun p => Ft.next_lt (by decide)
    unfold Ft.make
    simp only
    repeat' split
    · exact whole_leaf _ _ _ (by omega)
    · exact whole_leaf _ _ _ (by omega)
    · exact whole_leaf _ _ _ (by omega)
    · exact whole_leaf _ _ _ (by have := hn (Ft.next l 8 p).2; omega)
    · exact .mk _ _ _ _ (fun _ h => by cases h) (fun x hx => by rw [List.mem_singleton] at hx; rw [hx]; exact make_whole l d _)
    · exact .mk _ _ _ _ (fun h => by omega) (fun x hx => Ft.several_all (fun q => make_whole l d q) _ _ x hx)

set_option maxHeartbeats 4000000 in
set_option maxRecDepth 100000 in
theorem ref_not (line n t : ByteArray) (x : Ft) (k : List Ft) (a : Option Addr) (c : Nat) (hk : RefOK line x) (w : World) (hT : Lib.Utf8Tabs 1 2 w) (hks : KsAt w (.slice a (x :: k).length c) (.mk 6 n t (x :: k))) :
    Calls Tryz.prog 28 #[.agg #[.int .i64 6, .string n, .string t, .slice a (x :: k).length c], .string line] w fun e w' => e = .returned (.bool (!keeps line x)) ∧ Below w.heap.size w w' := by
  have hb0 : Below w.heap.size w (w.alloc (.cells #[.int .i64 6, .string n, .string t, .slice a (x :: k).length c] 29)) := (Below.refl _ w).alloc (Nat.le_refl _) _
  have hk0 := KsAt.below hb0 _ _ hks
  rw [KsAt] at hk0
  obtain ⟨a', cap, he, hl63, h0 | ⟨b, off, rfl, hbl, hka⟩⟩ := hk0
  · cases h0
  obtain ⟨rfl, rfl⟩ : a = some ⟨b, off, none⟩ ∧ c = cap := by simpa using he
  obtain ⟨kv, x0, x1, x2, x3, x4⟩ := KAt.get hka 0 (by simp)
  simp only [Nat.zero_mul, Nat.add_zero, List.getElem_cons_zero] at x0 x1 x2 x3 x4
  obtain ⟨ak, ck, rfl⟩ := x4.shape
  have HD := Lib.hid (hk _ _ x4 (tabs_below hT hb0))
  have HB0 := Lib.hid hb0
  have hpos : 0 < (x :: k).length := by simp
  clear hT hks hk hka hb0 x4 he
  simp only [Ft.val] at HD
  generalize (x :: k).length = NN at hpos hl63 HB0 HD x0 x1 x2 x3 ⊢
  go_enter Tryz.func28, Tryz.ntmps28
  go_wp2_with fail
  refine HD.out.mono ?_
  rintro e w' ⟨rfl, hb'⟩
  go_wp2_with fail
  go_ret
  exact ⟨rfl, HB0.out.trans (hb'.mono HB0.out.size)⟩

theorem countP_all (p : Ft → Bool) (k : List Ft) : (((k.countP p : Nat) : Int) == (k.length : Int)) = k.all p := by
  rw [Bool.eq_iff_iff, beq_iff_eq, List.all_eq_true, Int.natCast_inj, List.countP_eq_length]
theorem countP_any (p : Ft → Bool) (k : List Ft) : decide ((0 : Int) < ((k.countP p : Nat) : Int)) = k.any p := by
  rw [Bool.eq_iff_iff, decide_eq_true_iff, List.any_eq_true, Int.natCast_pos, List.countP_pos_iff]

/-- The answer of a filter of many kids. -/
def manyB (o : Int) (p : Ft → Bool) (k : List Ft) : Bool := if o = 7 then k.all p else if o = 8 then k.any p else false

set_option maxHeartbeats 8000000 in
set_option maxRecDepth 100000 in
theorem ref_many (line n t : ByteArray) (o : Int) (ho : o ≠ 1 ∧ o ≠ 3 ∧ o ≠ 4 ∧ o ≠ 5 ∧ o ≠ 6) (k : List Ft) (a : Option Addr) (c : Nat) (hk : ∀ x ∈ k, RefOK line x) (w : World) (hT : Lib.Utf8Tabs 1 2 w) (hks : KsAt w (.slice a k.length c) (.mk o n t k)) :
    Calls Tryz.prog 28 #[.agg #[.int .i64 o, .string n, .string t, .slice a k.length c], .string line] w fun e w' => e = .returned (.bool (manyB o (keeps line) k)) ∧ Below w.heap.size w w' := by
  have h1 : (o == 1) = false := beq_eq_false_iff_ne.2 ho.1
  have h3 : (o == 3) = false := beq_eq_false_iff_ne.2 ho.2.1
  have h4 : (o == 4) = false := beq_eq_false_iff_ne.2 ho.2.2.1
  have h5 : (o == 5) = false := beq_eq_false_iff_ne.2 ho.2.2.2.1
  have h6 : (o == 6) = false := beq_eq_false_iff_ne.2 ho.2.2.2.2
  have hb0 : Below w.heap.size w (w.alloc (.cells #[.int .i64 o, .string n, .string t, .slice a k.length c] 29)) := (Below.refl _ w).alloc (Nat.le_refl _) _
  have hq0 := CB.new w 29 #[.int .i64 o, .string n, .string t, .slice a k.length c]
  obtain ⟨p, hp⟩ : ∃ p, p = keeps line := ⟨_, rfl⟩
  have HK0 := Lib.hid (KsAt.below hb0 _ _ hks)
  have HT0 := Lib.hid (tabs_below hT hb0)
  have HB0 := Lib.hid hb0
  have HQ0 := Lib.hid hq0
  have HKK := Lib.hid hk
  have hl63 : k.length ≤ 9223372036854775807 := by rw [KsAt] at hks; obtain ⟨_, _, _, h, _⟩ := hks; exact h
  clear ho hT hks hb0 hq0 hk
  rw [← hp]
  obtain ⟨mb, hmb⟩ : ∃ mb, mb = manyB o p k := ⟨_, rfl⟩
  rw [← hmb]
  have HMB := Lib.hid hmb
  have HPP := Lib.hid hp
  clear hp hmb
  go_enter Tryz.func28, Tryz.ntmps28
  go_wp2_with fail
  go_loopw [5, 46] (fun vn vi wr => ∃ i : Nat, vi = .int .i64 i ∧ i ≤ k.length ∧ vn = .int .i64 ((k.take i).countP p : Nat) ∧ Below (w.alloc (.cells #[.int .i64 o, .string n, .string t, .slice a k.length c] 29)).heap.size (w.alloc (.cells #[.int .i64 o, .string n, .string t, .slice a k.length c] 29)) wr) (fun _ vi _ => k.length - (intOf vi).toNat)
  case atStart => exact ⟨0, rfl, Nat.zero_le _, rfl, Below.refl _ _⟩
  case round =>
    obtain ⟨i, rfl, hi, rfl, hb⟩ := hrel
    have HB := Lib.hid hb
    have HBW := Lib.hid (HB0.out.trans (hb.mono HB0.out.size))
    have hcp : (k.take i).countP p ≤ i := Nat.le_trans (List.countP_le_length) (by rw [List.length_take]; omega)
    by_cases hlt : i < k.length
    · have hks := KsAt.below hb _ _ HK0.out
      rw [KsAt] at hks
      obtain ⟨a', cap, he, _, h0 | ⟨b, off, rfl, hbl, hka⟩⟩ := hks
      · exact absurd hlt (by rw [h0]; simp)
      obtain ⟨rfl, rfl⟩ : a = some ⟨b, off, none⟩ ∧ c = cap := by simpa using he
      obtain ⟨kv, x0, x1, x2, x3, x4⟩ := KAt.get hka i hlt
      have HTC : Hid ((k.take (i + 1)).countP p = (k.take i).countP p + (if p k[i] = true then 1 else 0)) := Lib.hid (by rw [List.take_succ_eq_append_getElem hlt, List.countP_append, List.countP_cons, List.countP_nil, Nat.zero_add])
      have hkid := HKK.out _ (List.getElem_mem hlt)
      generalize k[i] = x at x0 x1 x2 x3 x4 HTC hkid
      obtain ⟨ak, ck, rfl⟩ := x4.shape
      have hb6 : Below wr.heap.size wr (wr.alloc (.cells #[.int .i64 x.op, .string x.name, .string x.text, .slice ak x.kids.length ck] 29)) := (Below.refl _ wr).alloc (Nat.le_refl _) _
      have HC := Lib.hid (hkid _ _ (KsAt.below hb6 _ _ x4) (tabs_below (tabs_below HT0.out HB.out) hb6))
      have HB6 := Lib.hid (HB.out.trans (hb6.mono HB.out.size))
      rw [← HPP.out] at HC
      clear hb hka he hkid x4 hb6
      simp only [Ft.val] at HC
      generalize (k.take i).countP p = q at hcp HTC ⊢
      cases hpx : p x with
      | true =>
        rw [hpx] at HC HTC
        have HTD := Lib.hid HTC.out
        rw [if_pos rfl] at HTD
        clear HTC hpx
        go_wp2_with (go_at_call 28; refine HC.out.mono ?_; rintro e w' ⟨rfl, hb'⟩)
        go_roundw
        case rel => exact ⟨i + 1, by go_num, by omega, by rw [HTD.out]; go_num, HB6.out.trans (hb'.mono HB6.out.size)⟩
        case measure => simp [intOf] <;> omega
      | false =>
        rw [hpx] at HC HTC
        have HTD := Lib.hid HTC.out
        rw [if_neg (by decide), Nat.add_zero] at HTD
        clear HTC hpx
        go_wp2_with (go_at_call 28; refine HC.out.mono ?_; rintro e w' ⟨rfl, hb'⟩)
        go_roundw
        case rel => exact ⟨i + 1, by go_num, by omega, by rw [HTD.out]; simp, HB6.out.trans (hb'.mono HB6.out.size)⟩
        case measure => simp [intOf] <;> omega
    · obtain rfl : i = k.length := by omega
      have HALL := Lib.hid (countP_all p k)
      have HANY := Lib.hid (countP_any p k)
      rw [List.take_length] at hcp ⊢
      have hq1 := (hb.block _ (by simp)).trans HQ0.out
      have c0 := CB.cell hq1 0
      have c3 := CB.cell hq1 3
      simp only [List.getElem?_toArray, List.getElem?_cons_succ, List.getElem?_cons_zero] at c0 c3
      clear hb hlt hq1
      by_cases h7 : o = 7
      · subst h7
        have hmb := HMB.out
        unfold manyB at hmb
        rw [if_pos rfl] at hmb
        have hall := HALL.out
        rw [← hmb] at hall
        clear hmb HMB HALL
        generalize k.countP p = q at hall hcp HANY ⊢
        cases mb with
        | true =>
          go_wp2_with fail
          go_ret
          exact ⟨rfl, HBW.out⟩
        | false =>
          go_wp2_with fail
          go_ret
          exact ⟨rfl, HBW.out⟩
      · have d7 : (o == 7) = false := beq_eq_false_iff_ne.2 h7
        by_cases h8 : o = 8
        · subst h8
          have hmb := HMB.out
          unfold manyB at hmb
          rw [if_neg (by decide), if_pos rfl] at hmb
          have hany := HANY.out
          rw [← hmb] at hany
          clear hmb HMB HANY h7
          generalize k.countP p = q at hany hcp HALL ⊢
          have HN : Hid (decide (0 < q) = mb) := Lib.hid (by rw [← hany]; simp)
          clear hany
          go_wp2_with fail
          go_ret
          exact ⟨by show Ending.returned (.bool (decide (0 < q))) = _; rw [HN.out], HBW.out⟩
        · have d8 : (o == 8) = false := beq_eq_false_iff_ne.2 h8
          have hmb := HMB.out
          unfold manyB at hmb
          rw [if_neg h7, if_neg h8] at hmb
          subst hmb
          clear h7 h8 HMB
          go_wp2_with fail
          go_ret
          exact ⟨rfl, HBW.out⟩

theorem many_keeps (line n t : ByteArray) (o : Int) (k : List Ft) (ho : o ≠ 1 ∧ o ≠ 3 ∧ o ≠ 4 ∧ o ≠ 5 ∧ o ≠ 6) : keeps line (.mk o n t k) = manyB o (keeps line) k := by
  unfold manyB
  by_cases h7 : o = 7
  · subst h7; rw [keeps_and, if_pos rfl]
  · rw [if_neg h7]
    by_cases h8 : o = 8
    · subst h8; rw [keeps_or, if_pos rfl]
    · rw [if_neg h8, keeps_none _ _ _ _ ⟨ho.1, ho.2.1, ho.2.2.1, ho.2.2.2.1, ho.2.2.2.2, h7, h8⟩]

theorem ref_ok (line : ByteArray) (hs : line.size ≤ 100000) : ∀ (m : Nat) (f : Ft), f.count ≤ m → Fit f → Whole f → RefOK line f := by
  intro m
  induction m with
  | zero =>
    intro f h
    cases f with
    | mk o n t k => rw [Ft.count] at h; omega
  | succ m ih =>
    intro f hm hf hw
    obtain ⟨o, n, t, k⟩ := f
    have hk : ∀ x ∈ k, RefOK line x := fun x hx => ih x (by have := count_kid (o := o) (n := n) (t := t) hx; omega) (hf.kids x hx) (hw.kids x hx)
    intro w kv hkv hT
    obtain ⟨a, c, rfl⟩ := hkv.shape
    show Calls Tryz.prog 28 #[.agg #[.int .i64 o, .string n, .string t, .slice a k.length c], .string line] w fun e w' => e = .returned (.bool (keeps line (.mk o n t k))) ∧ Below w.heap.size w w'
    rcases (show o = 1 ∨ o = 3 ∨ o = 4 ∨ o = 5 ∨ o = 6 ∨ (o ≠ 1 ∧ o ≠ 3 ∧ o ≠ 4 ∧ o ≠ 5 ∧ o ≠ 6) by omega) with rfl | rfl | rfl | rfl | rfl | ho
    · rw [keeps_true]; exact ref_true line n t a _ c hs w hT
    · rw [keeps_word]; exact ref_word line n t a _ c hs w hT
    · rw [keeps_has]; exact ref_has line n t a _ c hs hf.text w hT
    · rw [keeps_field]; exact ref_field line n t a _ c hs hf.name hf.text w hT
    · cases k with
      | nil => exact absurd rfl hw.six
      | cons x k => rw [keeps_not]; exact ref_not line n t x k a c (hk x (by simp)) w hT hkv
    · rw [many_keeps line n t o k ho]; exact ref_many line n t o ho k a c hk w hT hkv

theorem refLine_any (line : ByteArray) (hs : line.size ≤ 100000) (f : Ft) (hf : Fit f) (hw : Whole f) (w : World) (v : Value) (hv : FAt w v f) (hT : Lib.Utf8Tabs 1 2 w) :
    Calls Tryz.prog 28 #[v, .string line] w fun e w' => e = .returned (.bool (keeps line f)) ∧ Below w.heap.size w w' := by
  obtain ⟨kv, rfl, hk⟩ := hv
  exact ref_ok line hs f.count f (Nat.le_refl _) hf hw w kv hk hT

end Go.Proofs.YtidjodplimkmgaaGreatDoor
