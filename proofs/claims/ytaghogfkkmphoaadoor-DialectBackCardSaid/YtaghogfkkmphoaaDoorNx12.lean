/-
  dialect.next, Get: THE NEXT QUESTION OF A READER.
-/
import Derived.Test.YtaghogfkkmphoaaDoorNg12
import Derived.Test.YtaghogfkkmphoaaDoorGw12
namespace Go.Proofs.YtaghogfkkmphoaaDoor.E4
open Go.RowKit Go

theorem texts_nil (w : World) : TextsAt w (.slice none 0 0) [] := ⟨none, 0, rfl, by simp, .inl rfl⟩
theorem ms_nil (w : World) : MsAt w (.slice none 0 0) [] := ⟨none, 0, rfl, by simp, .inl rfl⟩

set_option maxHeartbeats 4000000 in
set_option maxRecDepth 100000 in
theorem next_any (g : Nat) (l : List UInt8) (bad : Bool) (w : World) (h : Rd w g l bad) :
    Calls Tryd.prog 45 #[.pointer (some ⟨g, 0, none⟩)] w fun e w' => ∃ a av mv l' b', e = .returned (a.dyn av mv) ∧ RAk l bad a l' b' ∧ Rd w' g l' b' ∧ Chg g w w' ∧ KeptT w.heap.size w' (fun W => TextsAt W av a.all) ∧ KeptT w.heap.size w' (fun W => MsAt W mv a.mat) := by
  have HU := Lib.hid (uint_rd 3 g l bad w h)
  clear h
  go_enter Tryd.func45, Tryd.ntmps45
  go_wp2_with fail
  refine HU.out.mono ?_
  rintro e w1 ⟨k, l1, b1, rfl, hru, hrd, hon⟩
  have hk3 := hru.le
  have HR1 := Lib.hid hru
  have HC1 := Lib.hid hon.chg
  have HI := Lib.hid (int_rd g l1 b1 w1 hrd)
  clear hru hrd hon HU
  go_wp2_with fail
  refine HI.out.mono ?_
  rintro e w2 ⟨n1, l2, b2, rfl, hru, hrd, hon⟩
  have HR2 := Lib.hid hru
  have HC2 := Lib.hid (HC1.out.trans hon.chg)
  have HJ := Lib.hid (int_rd g l2 b2 w2 hrd)
  clear hru hrd hon HI
  go_wp2_with fail
  refine HJ.out.mono ?_
  rintro e w3 ⟨n2, l3, b3, rfl, hru, hrd, hon⟩
  have HR3 := Lib.hid hru
  have HC3 := Lib.hid (HC2.out.trans hon.chg)
  have HRD3 := Lib.hid hrd
  clear hru hrd hon HJ
  by_cases k1 : k = 1
  · have HG := Lib.hid (getRows_any g l3 b3 w3 HRD3.out)
    have HK := Lib.hid k1
    have e1 : ((k : Int) == 1) = true := by simp [k1]
    clear k1
    go_wp2_with fail
    refine HG.out.mono ?_
    rintro e w4 ⟨rows, av, l4, b4, l5, b5, rfl, hru, hrn, hrd, hch, htx⟩
    obtain ⟨aa, ca, rfl, hz1, hz2⟩ := htx.self
    have HRU := Lib.hid hru
    have HRN := Lib.hid hrn
    have HRD := Lib.hid hrd
    have HCH := Lib.hid (HC3.out.trans hch)
    have HTX := Lib.hid (htx.mono HC3.out.size)
    clear hz1 hz2 hru hrn hrd hch htx HG
    go_wp2_with fail
    go_ret
    refine ⟨⟨(k : Nat), Lib.unzigzag n1, Lib.unzigzag n2, rows, []⟩, .slice aa rows.length ca, .slice none 0 0, l5, b5, ?_, ⟨k, l1, b1, n1, l2, b2, n2, l3, b3, HR1.out, rfl, HR2.out, rfl, HR3.out, rfl, .inl ⟨HK.out, rfl, l4, b4, HRU.out, HRN.out⟩⟩, HRD.out, HCH.out, HTX.out, fun _ _ _ => ms_nil _⟩
    rw [dyn1 (by rw [HK.out]; rfl)]
    rfl
  by_cases k2 : k = 2
  · have HG := Lib.hid (getMatchers_any g l3 b3 w3 HRD3.out)
    have HK := Lib.hid k2
    have e1 : ((k : Int) == 1) = false := by simp [k2]
    have e2 : ((k : Int) == 2) = true := by simp [k2]
    clear k1 k2
    go_wp2_with fail
    refine HG.out.mono ?_
    rintro e w4 ⟨ms, mv, l4, b4, l5, b5, rfl, hru, hrn, hrd, hch, htx⟩
    obtain ⟨aa, ca, rfl, hz1, hz2⟩ := htx.self
    have HRU := Lib.hid hru
    have HRN := Lib.hid hrn
    have HRD := Lib.hid hrd
    have HCH := Lib.hid (HC3.out.trans hch)
    have HTX := Lib.hid (htx.mono HC3.out.size)
    clear hz1 hz2 hru hrn hrd hch htx HG
    go_wp2_with fail
    go_ret
    refine ⟨⟨(k : Nat), Lib.unzigzag n1, Lib.unzigzag n2, [], ms⟩, .slice none 0 0, .slice aa ms.length ca, l5, b5, ?_, ⟨k, l1, b1, n1, l2, b2, n2, l3, b3, HR1.out, rfl, HR2.out, rfl, HR3.out, rfl, .inr (.inl ⟨HK.out, rfl, l4, b4, HRU.out, HRN.out⟩)⟩, HRD.out, HCH.out, fun _ _ _ => texts_nil _, HTX.out⟩
    rw [dyn2 (by rw [HK.out]; rfl)]
    rfl
  have e1 : ((k : Int) == 1) = false := by simp; omega
  have e2 : ((k : Int) == 2) = false := by simp; omega
  have HK1 := Lib.hid k1
  have HK2 := Lib.hid k2
  by_cases k3 : k = 3
  · have HK := Lib.hid k3
    have e3 : ((k : Int) == 3) = true := by simp [k3]
    clear k1 k2 k3
    go_wp2_with fail
    go_ret
    refine ⟨⟨(k : Nat), Lib.unzigzag n1, Lib.unzigzag n2, [], []⟩, .slice none 0 0, .slice none 0 0, l3, b3, ?_, ⟨k, l1, b1, n1, l2, b2, n2, l3, b3, HR1.out, rfl, HR2.out, rfl, HR3.out, rfl, .inr (.inr ⟨HK1.out, HK2.out, rfl, rfl, rfl, rfl⟩)⟩, HRD3.out, HC3.out, fun _ _ _ => texts_nil _, fun _ _ _ => ms_nil _⟩
    rw [dyn3 (by rw [HK.out]; rfl)]
    rfl
  · have HK : Hid (k = 0) := Lib.hid (by omega)
    have e3 : ((k : Int) == 3) = false := by simp; omega
    clear k1 k2 k3
    go_wp2_with fail
    go_ret
    refine ⟨⟨(k : Nat), Lib.unzigzag n1, Lib.unzigzag n2, [], []⟩, .slice none 0 0, .slice none 0 0, l3, b3, ?_, ⟨k, l1, b1, n1, l2, b2, n2, l3, b3, HR1.out, rfl, HR2.out, rfl, HR3.out, rfl, .inr (.inr ⟨HK1.out, HK2.out, rfl, rfl, rfl, rfl⟩)⟩, HRD3.out, HC3.out, fun _ _ _ => texts_nil _, fun _ _ _ => ms_nil _⟩
    rw [dyn0 (by rw [HK.out]; simp)]
    rfl

/-- What Get answers of a question that was read. -/
def gotD (a : Ask) (av mv : Value) (b : Bool) : Value := .tuple (if (!b && a.good isTx) = true then #[a.dyn av mv, .bool true] else #[.nilIface, .bool false])

set_option maxHeartbeats 2000000 in
set_option maxRecDepth 100000 in
theorem ownGet_any (g : Nat) (l : List UInt8) (bad : Bool) (w : World) (h : Rd w g l bad) (hTg : ∀ w', Chg g w w' → Lib.Utf8Tabs 0 1 w') :
    Calls Tryd.prog 20 #[.pointer (some ⟨g, 0, none⟩)] w fun e w' => ∃ a av mv l' b', e = .returned (gotD a av mv b') ∧ RAk l bad a l' b' ∧ Rd w' g l' b' ∧ Chg g w w' ∧ KeptT w.heap.size w' (fun W => TextsAt W av a.all) ∧ KeptT w.heap.size w' (fun W => MsAt W mv a.mat) := by
  have HN := Lib.hid (next_any g l bad w h)
  have HTG := Lib.hid hTg
  clear h hTg
  go_enter Tryd.func20, Tryd.ntmps20
  go_wp2_with fail
  refine HN.out.mono ?_
  rintro e w1 ⟨a, av, mv, l1, b1, rfl, hra, hrd, hch, h1, h2⟩
  have HRA := Lib.hid hra
  have HRD := Lib.hid hrd
  have HCH := Lib.hid hch
  have H1 := Lib.hid h1
  have H2 := Lib.hid h2
  have HB := Lib.hid (bad_any g l1 b1 w1 hrd)
  have HGO := Lib.hid (ownGood_any a av mv w1 h1.self h2.self (HTG.out w1 hch))
  clear hra hrd hch h1 h2 HN
  obtain ⟨dv, hdv⟩ : ∃ v, v = a.dyn av mv := ⟨_, rfl⟩
  rw [← hdv] at HGO ⊢
  have HDV := Lib.hid hdv
  clear hdv
  cases b1 with
  | true =>
    have HA : Hid (gotD a av mv true = .tuple #[.nilIface, .bool false]) := Lib.hid rfl
    go_wp2_with (go_at_call 46; refine HB.out.mono ?_; rintro e w2 ⟨rfl, hx⟩; subst hx)
    refine bodyPost_ret (v := .tuple #[.nilIface, .bool false]) (by simp [results, Tryd.results20, go_sem]) rfl ⟨a, av, mv, l1, true, by rw [HA.out], HRA.out, HRD.out, HCH.out, H1.out, H2.out⟩
  | false =>
    cases hg : a.good isTx with
    | false =>
      have HA : Hid (gotD a av mv false = .tuple #[.nilIface, .bool false]) := Lib.hid (by unfold gotD; rw [hg]; rfl)
      rw [hg] at HGO
      clear hg
      go_wp2_with (first | (go_at_call 46; refine HB.out.mono ?_; rintro e w2 ⟨rfl, hx⟩; subst hx) | (go_at_call 13; refine HGO.out.mono ?_; rintro e w3 ⟨rfl, hb3⟩))
      refine bodyPost_ret (v := .tuple #[.nilIface, .bool false]) (by simp [results, Tryd.results20, go_sem]) rfl ⟨a, av, mv, l1, false, by rw [HA.out], HRA.out, HRD.out.below hb3 HRD.out.lt, HCH.out.trans (Below.chg hb3), H1.out.below hb3, H2.out.below hb3⟩
    | true =>
      have HA : Hid (gotD a av mv false = .tuple #[dv, .bool true]) := Lib.hid (by unfold gotD; rw [hg, HDV.out]; rfl)
      rw [hg] at HGO
      clear hg
      go_wp2_with (first | (go_at_call 46; refine HB.out.mono ?_; rintro e w2 ⟨rfl, hx⟩; subst hx) | (go_at_call 13; refine HGO.out.mono ?_; rintro e w3 ⟨rfl, hb3⟩))
      refine bodyPost_ret (v := .tuple #[dv, .bool true]) (by simp [results, Tryd.results20, go_sem]) rfl ⟨a, av, mv, l1, false, by rw [HA.out], HRA.out, HRD.out.below hb3 HRD.out.lt, HCH.out.trans (Below.chg hb3), H1.out.below hb3, H2.out.below hb3⟩

end Go.Proofs.YtaghogfkkmphoaaDoor.E4
