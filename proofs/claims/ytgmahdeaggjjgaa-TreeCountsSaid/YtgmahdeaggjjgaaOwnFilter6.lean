/-
  tree.Filter, slices.EqualFunc: ARE TWO FILTERS THE SAME?
-/
import Derived.Test.YtgmahdeaggjjgaaNodes6
import Derived.Test.YtgmahdeaggjjgaaGood6
namespace Go.Proofs.Ytgmahdeaggjjgaa
open Go.RowKit Go

theorem calls_yes {f : Nat} {args : Array Value} {w : World} {p : Prop} (h : Calls Try.prog f args w fun e w' => ∃ c, e = .returned (.bool c) ∧ (c = true ↔ p) ∧ Lay w w') (hp : p) : Calls Try.prog f args w fun e w' => e = .returned (.bool true) ∧ Lay w w' :=
  h.mono fun _ _ ⟨_, he, hc, hl⟩ => ⟨by rw [he, hc.2 hp], hl⟩
theorem calls_no {f : Nat} {args : Array Value} {w : World} {p : Prop} (h : Calls Try.prog f args w fun e w' => ∃ c, e = .returned (.bool c) ∧ (c = true ↔ p) ∧ Lay w w') (hp : ¬ p) : Calls Try.prog f args w fun e w' => e = .returned (.bool false) ∧ Lay w w' :=
  h.mono fun _ _ ⟨_, he, hc, hl⟩ => ⟨by rw [he, Bool.eq_false_iff.2 fun h => hp (hc.1 h)], hl⟩

/-- What Filter answers. -/
def SameP (f g : Ft) (w : World) (e : Ending) (w' : World) : Prop := ∃ b, e = .returned (.bool b) ∧ (b = true ↔ f = g) ∧ Lay w w'

/-- Kids that lie so. -/
def KidsAt (w : World) (a : Option Addr) (k : List Ft) : Prop := k = [] ∨ ∃ b off, a = some ⟨b, off, none⟩ ∧ b < w.heap.size ∧ KAt w b off k

set_option maxHeartbeats 4000000 in
set_option maxRecDepth 100000 in
theorem equalFunc_any (m : Nat) (IH : ∀ (f g : Ft) (w : World) (u v : Value), f.count ≤ m → FAt w u f → FAt w v g → Calls Try.prog 15 #[u, v] w (SameP f g w))
    (ks ls : List Ft) (a b : Option Addr) (ca cb : Nat) (w : World) (hm : Ft.counts ks ≤ m) (hk63 : ks.length ≤ 9223372036854775807) (hl63 : ls.length ≤ 9223372036854775807) (ha : KidsAt w a ks) (hb : KidsAt w b ls) :
    Calls Try.prog 26 #[.slice a ks.length ca, .slice b ls.length cb, .func (.func 15) #[] #[]] w fun e w' => ∃ c, e = .returned (.bool c) ∧ (c = true ↔ ks = ls) ∧ Lay w w' := by
  have HIH := Lib.hid IH
  have HA := Lib.hid ha
  have HB := Lib.hid hb
  clear IH ha hb
  by_cases hlen : ks.length = ls.length
  · have hne : ((ks.length : Int) != (ls.length : Int)) = false := by simp [hlen]
    have HLEN := Lib.hid hlen
    clear hlen
    go_enter Try.func26, Try.ntmps26
    go_wp2_with fail
    go_loopw [17] (fun vi wr => ∃ i : Nat, vi = .int .i64 i ∧ i ≤ ks.length ∧ ks.take i = ls.take i ∧ Lay w wr) (fun vi _ => ks.length - (intOf vi).toNat)
    case atStart => exact ⟨0, rfl, Nat.zero_le _, rfl, Keep.refl _ _⟩
    case round =>
      obtain ⟨i, rfl, hi, heq, hl⟩ := hrel
      have HL := Lib.hid hl
      have HEQ := Lib.hid heq
      clear heq
      by_cases hlt : i < ks.length
      · have hiS : i < ls.length := by rw [← HLEN.out]; exact hlt
        have hiS' : (i : Int) < (ls.length : Int) := by omega
        rcases HA.out with h0 | ⟨ba, oa, rfl, hba, hka⟩
        · exact absurd hlt (by rw [h0]; simp)
        rcases HB.out with h0 | ⟨bb, ob, rfl, hbb, hkb⟩
        · exact absurd hiS (by rw [h0]; simp)
        obtain ⟨kx, x0, x1, x2, x3, x4⟩ := KAt.get (KAt.below (Lay.below hl) ba hba oa ks hka) i hlt
        obtain ⟨ky, y0, y1, y2, y3, y4⟩ := KAt.get (KAt.below (Lay.below hl) bb hbb ob ls hkb) i hiS
        have hcm := counts_mem ks i hlt
        have HSN : Hid (ks[i] = ls[i]'hiS → ks.take (i + 1) = ls.take (i + 1)) := Lib.hid fun e => by
          rw [List.take_succ_eq_append_getElem hlt, List.take_succ_eq_append_getElem hiS, HEQ.out, e]
        have HNE : Hid (ks[i] ≠ ls[i]'hiS → ks ≠ ls) := Lib.hid fun h e => by subst e; exact h rfl
        have hba2 : ba < wr.heap.size := Nat.lt_of_lt_of_le hba hl.size
        have hbb2 : bb < wr.heap.size := Nat.lt_of_lt_of_le hbb hl.size
        generalize ks[i] = x at x0 x1 x2 x3 x4 hcm HSN HNE
        generalize ls[i]'hiS = y at y0 y1 y2 y3 y4 HSN HNE
        obtain ⟨ax, cx, rfl⟩ := x4.shape
        obtain ⟨ay, cy, rfl⟩ := y4.shape
        obtain ⟨W2, hW2⟩ : ∃ W2, W2 = (wr.alloc (.cells #[.int .i64 x.op, .string x.name, .string x.text, .slice ax x.kids.length cx] 26)).alloc (.cells #[.int .i64 y.op, .string y.name, .string y.text, .slice ay y.kids.length cy] 26) := ⟨_, rfl⟩
        have hal : Lay wr W2 := by rw [hW2]; exact ((Keep.refl _ _).alloc _).alloc _
        have hcx := HIH.out x y W2 (x.val (.slice ax x.kids.length cx)) (y.val (.slice ay y.kids.length cy)) (by omega) ⟨_, rfl, KsAt.below hal.below _ x x4⟩ ⟨_, rfl, KsAt.below hal.below _ y y4⟩
        simp only [Ft.val] at hcx
        have HW := Lib.hid hW2
        have HAL := Lib.hid hal
        clear hl hka hkb x4 y4 hal hW2
        by_cases hxy : x = y
        · have HCX := Lib.hid (calls_yes hcx hxy)
          have HS := Lib.hid (HSN.out hxy)
          clear hcx hxy HSN HNE
          go_wp2_with (go_at_call 15; rw [← HW.out]; refine HCX.out.mono ?_; rintro e w3 ⟨rfl, hl3⟩)
          go_roundw
          case rel => exact ⟨i + 1, by go_num, by omega, HS.out, HL.out.trans (HAL.out.trans hl3)⟩
          case measure => simp [intOf]; omega
        · have HCX := Lib.hid (calls_no hcx hxy)
          have HS := Lib.hid (HNE.out hxy)
          clear hcx hxy HSN HNE
          go_wp2_with (go_at_call 15; rw [← HW.out]; refine HCX.out.mono ?_; rintro e w3 ⟨rfl, hl3⟩)
          go_ret
          exact ⟨false, rfl, ⟨fun h => Bool.noConfusion h, fun h => absurd h HS.out⟩, HL.out.trans (HAL.out.trans hl3)⟩
      · obtain rfl : i = ks.length := by omega
        have e := HEQ.out
        rw [List.take_length, HLEN.out, List.take_length] at e
        have HE := Lib.hid e
        clear hl e
        go_wp2_with fail
        go_ret
        exact ⟨true, rfl, ⟨fun _ => HE.out, fun _ => rfl⟩, HL.out⟩
  · have hne : ((ks.length : Int) != (ls.length : Int)) = true := by simp; omega
    go_enter Try.func26, Try.ntmps26
    go_wp2_with fail
    go_ret
    exact ⟨false, rfl, ⟨fun h => Bool.noConfusion h, fun h => absurd (congrArg List.length h) hlen⟩, Keep.refl _ _⟩

theorem KidsAt.of {w : World} {kv : Value} {f : Ft} (h : KsAt w kv f) : ∃ a cap, kv = .slice a f.kids.length cap ∧ f.kids.length ≤ 9223372036854775807 ∧ KidsAt w a f.kids := by
  obtain ⟨o, n, t, k⟩ := f
  rw [KsAt] at h
  obtain ⟨a, cap, hv, hl, h⟩ := h
  exact ⟨a, cap, hv, hl, h⟩
theorem KidsAt.lay {w w' : World} {a : Option Addr} {k : List Ft} (h : KidsAt w a k) (hl : Lay w w') : KidsAt w' a k :=
  h.imp id fun ⟨b, off, ha, hb, hk⟩ => ⟨b, off, ha, Nat.lt_of_lt_of_le hb hl.size, KAt.below hl.below b hb off k hk⟩

set_option maxHeartbeats 4000000 in
set_option maxRecDepth 100000 in
theorem ownFilter_any : ∀ (m : Nat) (f g : Ft) (w : World) (u v : Value), f.count ≤ m → FAt w u f → FAt w v g → Calls Try.prog 15 #[u, v] w (SameP f g w) := by
  intro m
  induction m with
  | zero =>
    intro f g w u v h
    cases f with
    | mk o n t k => rw [Ft.count] at h; omega
  | succ m ih =>
    rintro f g w u v hm ⟨ku, rfl, hku⟩ ⟨kg, rfl, hkg⟩
    obtain ⟨a, ca, rfl, ha63, ha⟩ := KidsAt.of hku
    obtain ⟨b, cb, rfl, hb63, hb⟩ := KidsAt.of hkg
    clear hku hkg
    obtain ⟨o, nm, t, ks⟩ := f
    obtain ⟨o', nm', t', ls⟩ := g
    rw [Ft.count] at hm
    simp only [Ft.val, Ft.op, Ft.name, Ft.text, Ft.kids] at *
    obtain ⟨W2, hW2⟩ : ∃ W2, W2 = (w.alloc (.cells #[.int .i64 o, .string nm, .string t, .slice a ks.length ca] 26)).alloc (.cells #[.int .i64 o', .string nm', .string t', .slice b ls.length cb] 26) := ⟨_, rfl⟩
    have hal : Lay w W2 := by rw [hW2]; exact ((Keep.refl _ _).alloc _).alloc _
    have hcx := equalFunc_any m ih ks ls a b ca cb W2 (by omega) ha63 hb63 (ha.lay hal) (hb.lay hal)
    have HW := Lib.hid hW2
    have HAL := Lib.hid hal
    unfold SameP
    clear ih ha hb hal hW2
    by_cases ho : o = o'
    · subst ho
      by_cases hn : nm = nm'
      · subst hn
        by_cases ht : t = t'
        · subst ht
          by_cases hk : ks = ls
          · have HCX := Lib.hid (calls_yes hcx hk)
            have HK := Lib.hid hk
            clear hcx hk
            go_enter Try.func15, Try.ntmps15
            go_wp2_with (go_at_call 26; rw [← HW.out]; refine HCX.out.mono ?_; rintro e w3 ⟨rfl, hl3⟩)
            go_ret
            exact ⟨true, rfl, ⟨fun _ => by rw [HK.out], fun _ => rfl⟩, HAL.out.trans hl3⟩
          · have HCX := Lib.hid (calls_no hcx hk)
            have HK := Lib.hid hk
            clear hcx hk
            go_enter Try.func15, Try.ntmps15
            go_wp2_with (go_at_call 26; rw [← HW.out]; refine HCX.out.mono ?_; rintro e w3 ⟨rfl, hl3⟩)
            go_ret
            exact ⟨false, rfl, ⟨fun h => Bool.noConfusion h, fun h => absurd (by injection h) HK.out⟩, HAL.out.trans hl3⟩
        · have ht' : (t.toList == t'.toList) = false := by rw [beq_eq_false_iff_ne]; exact fun e => ht (toList_inj _ _ e)
          have HT := Lib.hid ht
          clear ht hcx
          go_enter Try.func15, Try.ntmps15
          go_wp2_with fail
          go_ret
          exact ⟨false, rfl, ⟨fun h => Bool.noConfusion h, fun h => absurd (by injection h) HT.out⟩, by rw [← HW.out]; exact HAL.out⟩
      · have hn' : (nm.toList == nm'.toList) = false := by rw [beq_eq_false_iff_ne]; exact fun e => hn (toList_inj _ _ e)
        have HN := Lib.hid hn
        clear hn hcx
        go_enter Try.func15, Try.ntmps15
        go_wp2_with fail
        go_ret
        exact ⟨false, rfl, ⟨fun h => Bool.noConfusion h, fun h => absurd (by injection h) HN.out⟩, by rw [← HW.out]; exact HAL.out⟩
    · have ho' : (o == o') = false := by simp; omega
      have HO := Lib.hid ho
      clear ho hcx
      go_enter Try.func15, Try.ntmps15
      go_wp2_with fail
      go_ret
      exact ⟨false, rfl, ⟨fun h => Bool.noConfusion h, fun h => absurd (by injection h) HO.out⟩, by rw [← HW.out]; exact HAL.out⟩

end Go.Proofs.Ytgmahdeaggjjgaa
