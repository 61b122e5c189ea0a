/-
  WHAT THE LAWS OF LAYER 14 SHARE: is more there than is played, nothing is added to no engine, and what the document tells.
-/
import Derived.Test.YtgfjbboeappemaaGreatDoorRg14
import Derived.Test.YtgfjbboeappemaaGreatDoorAx14
import Derived.Test.YtgfjbboeappemaaGreatDoorTy12
namespace Go.Proofs.YtgfjbboeappemaaGreatDoor.E4
open Go.RowKit Go
open Go.Sort (grow)

/-- Is more there than is played? -/
def bigF (es : List Ent) (a : Ask) (m : Ent) : Bool := (decide (60 < es.length) || es.any Ent.big) || a.great || m.big

set_option maxRecDepth 100000 in
theorem lawGreat_any {G L : Nat → Prop} {w : World} {v qv : Value} {es : List Ent} {a : Ask} {has : Bool} {m : Ent} {ml : Value} (h : EntsAt G L w v es) (hq : AskAt w qv a) (hm : LabsAt (fun _ => True) w ml m.labs) :
    Calls Tryz.prog 9 #[v, qv, mkV has m ml] w fun x w' => x = .returned (.bool (bigF es a m)) ∧ Below w.heap.size w w' := by
  obtain ⟨ae, ce, rfl, he63, _⟩ := id h
  obtain ⟨ma, mc, rfl, hm63, _⟩ := id hm
  obtain ⟨av, mv, rfl, hall, hmat⟩ := id hq
  obtain ⟨aa, ca, rfl, ha63, _⟩ := id hall
  obtain ⟨am, cm, rfl, hm6, _⟩ := id hmat
  unfold mkV Ask.cells bigF
  unfold Ask.cells at hq
  obtain ⟨w1, hw1⟩ : ∃ w1, w1 = w.alloc (.cells #[.int .i64 a.kd, .int .i64 a.src, .int .i64 a.til, .slice aa a.all.length ca, .slice am a.mat.length cm] 26) := ⟨_, rfl⟩
  have hb1 : Below w.heap.size w w1 := by rw [hw1]; exact (Below.refl _ w).alloc (Nat.le_refl _) _
  have hk1 : Bl w1 w.heap.size 26 #[.int .i64 a.kd, .int .i64 a.src, .int .i64 a.til, .slice aa a.all.length ca, .slice am a.mat.length cm] := by rw [hw1]; exact Bl.new w 26 _
  obtain ⟨w2, hw2⟩ : ∃ w2, w2 = w1.alloc (.cells #[.bool has, .int .i64 m.tm, .slice ma m.labs.length mc, .string m.line] 31) := ⟨_, rfl⟩
  have hb12 : Below w1.heap.size w1 w2 := by rw [hw2]; exact (Below.refl _ w1).alloc (Nat.le_refl _) _
  have hs1 : w1.heap.size = w.heap.size + 1 := by rw [hw1]; simp
  have hk2 : Bl w2 (w.heap.size + 1) 31 #[.bool has, .int .i64 m.tm, .slice ma m.labs.length mc, .string m.line] := by rw [hw2, ← hs1]; exact Bl.new w1 31 _
  have hb2 := below_mid hb1 hb12
  have hka := Bl.below hk1 hb12
  rw [hw1] at hw2
  have HW2 := Lib.hid hw2.symm
  have HMN := Lib.hid (many_any (h.below1 hb2) 60 (by omega))
  have HB2 := Lib.hid hb2
  have HKA := Lib.hid hka
  have HKM := Lib.hid hk2
  have HQ := Lib.hid (hq.below hb2)
  have HM := Lib.hid (hm.below1 hb2)
  clear h hq hm hall hmat hw1 hw2 hb1 hb12 hb2 hk1 hk2 hka hs1
  generalize hmb : (decide (60 < es.length) || es.any Ent.big) = mb at HMN ⊢
  clear hmb
  go_enter Tryz.func9, Tryz.ntmps9
  go_upto_region 1 with fail
  rw [HW2.out]
  cases mb with
  | true =>
    go_wp2_with (go_at_call 21; refine HMN.out.mono ?_; rintro x w3 ⟨rfl, hl3⟩)
    go_ret
    exact ⟨rfl, below_mid HB2.out (lay_below hl3)⟩
  | false =>
    go_wp2_with fail
    refine HMN.out.mono ?_
    rintro x w3 ⟨rfl, hl3⟩
    have hb3 := lay_below hl3
    have HG := Lib.hid (askGreat_any a _ w3 (HQ.out.below hb3))
    have hka3 := HKA.out.below hb3
    have c0 := hka3.cell 0
    have c1 := hka3.cell 1
    have c2 := hka3.cell 2
    have c3 := hka3.cell 3
    have c4 := hka3.cell 4
    simp only [List.getElem?_toArray, List.getElem?_cons_succ, List.getElem?_cons_zero] at c0 c1 c2 c3 c4
    have HB3 := Lib.hid hb3
    clear hka3 hb3 hl3 HMN
    cases hag : a.great with
    | true =>
      rw [hag] at HG
      go_wp2_with (go_at_call 22; refine HG.out.mono ?_; rintro x w4 ⟨rfl, hb4⟩)
      go_ret
      exact ⟨by rw [hag]; rfl, below_mid HB2.out (below_mid HB3.out hb4)⟩
    | false =>
      rw [hag] at HG
      go_wp2_with fail
      refine HG.out.mono ?_
      rintro x w4 ⟨rfl, hb4⟩
      have hb24 := below_mid HB3.out hb4
      have HGR := Lib.hid (great_any (HM.out.below1 hb24))
      have hkm4 := HKM.out.below hb24
      have d1 := hkm4.cell 1
      have d2 := hkm4.cell 2
      have d3 := hkm4.cell 3
      simp only [List.getElem?_toArray, List.getElem?_cons_succ, List.getElem?_cons_zero] at d1 d2 d3
      have HB4 := Lib.hid (below_mid HB2.out hb24)
      simp only [Ent.val] at HGR
      clear hkm4 hb24 hb4 c0 c1 c2 c3 c4
      go_wp2_with (go_at_call 23; refine HGR.out.mono ?_; rintro x w5 ⟨rfl, hl5⟩)
      go_ret
      exact ⟨by rw [hag]; rfl, below_mid HB4.out (lay_below hl5)⟩

set_option maxRecDepth 100000 in
theorem add_nil (w : World) : Calls Tryz.prog 17 #[.pointer none, .agg #[.int .i64 0, .slice none 0 0, .string ⟨#[]⟩]] w fun x w' => x = .returned (.tuple #[]) ∧ Below w.heap.size w w' := by
  have HB : Hid (Below w.heap.size w (w.alloc (.cells #[.int .i64 0, .slice none 0 0, .string ⟨#[]⟩] 29))) := Lib.hid ((Below.refl _ w).alloc (Nat.le_refl _) _)
  go_enter Tryz.func17, Tryz.ntmps17
  go_wp2_with fail
  refine bodyPost_ret (v := .tuple #[]) (by simp [results, Tryz.results17, go_sem]) rfl ⟨rfl, HB.out⟩

def e1A : Ent := ⟨2, [⟨⟨#[97, 112, 112]⟩, ⟨#[97]⟩⟩], ⟨#[]⟩⟩
def e2A : Ent := ⟨1, [], ⟨#[]⟩⟩
def mA : Mt := ⟨⟨#[97, 112, 112]⟩, false, ⟨#[97]⟩⟩
def aA : Ask := ⟨2, 0, 9, [], [mA]⟩
theorem alive_1 : addE [] e1A = [e1A] := by kernel_rfl
theorem alive_2 : addE [e1A] e2A = [e1A, e2A] := by kernel_rfl
theorem alive_f : [e1A, e2A].filter (asksM 0 9 [mA]) = [e1A] := by kernel_rfl
theorem alive_g : aA.good isTx = true := by kernel_rfl
theorem alive_n : aA.great = false := by kernel_rfl
theorem alive_b1 : e1A.big = false := by kernel_rfl
theorem alive_b2 : e2A.big = false := by kernel_rfl
theorem alive_s {srt : List Ent} (h : Sorts (ordC false) [e1A] srt) : srt = [e1A] := Sorts.unique (ordC_lc false) h (⟨List.pairwise_singleton _ _, fun _ => Iff.rfl⟩ : Sorts (ordC false) [e1A] [e1A]) fun _ => Iff.rfl
theorem alive_d (mv : Value) : aA.dyn (.slice none 0 0) mv = .iface 51 (.agg #[.int .i64 0, .int .i64 9, mv]) := by unfold Ask.dyn aA; rw [if_neg (by decide), if_pos rfl]

theorem lab_new (w : World) : LabsAt (fun _ => True) (w.alloc (.cells #[.string ⟨#[97, 112, 112]⟩, .string ⟨#[97]⟩] 57)) (.slice (some ⟨w.heap.size, 0, none⟩) 1 1) e1A.labs := by
  refine ⟨some ⟨w.heap.size, 0, none⟩, 1, rfl, by decide, .inr ⟨w.heap.size, 0, rfl, trivial, by simp, fun i hi => ?_⟩⟩
  obtain rfl : i = 0 := by simp [e1A] at hi; omega
  constructor <;> go_simp <;> rfl

theorem mat_new (w : World) : MsAt (w.alloc (.cells #[.string ⟨#[97, 112, 112]⟩, .bool false, .string ⟨#[97]⟩] 59)) (.slice (some ⟨w.heap.size, 0, none⟩) 1 1) [mA] := by
  refine ⟨some ⟨w.heap.size, 0, none⟩, 1, rfl, by decide, .inr ⟨w.heap.size, 0, rfl, by simp, fun i hi => ?_⟩⟩
  obtain rfl : i = 0 := by simp at hi; omega
  refine ⟨?_, ?_, ?_⟩ <;> go_simp <;> rfl

set_option maxRecDepth 100000 in
theorem alive_any (w : World) (hT : Lib.Utf8Tabs 1 2 w) : Calls Tryz.prog 8 #[] w fun x w' => x = .returned (.bool true) ∧ Below w.heap.size w w' := by
  have hmx : Tryz.prog.follows .mixedOrders = true := by kernel_rfl
  have M1 : e1A.Mod := (mod_of (e := e1A) (by decide) alive_b1).1
  have M2 : e2A.Mod := (mod_of (e := e2A) (by decide) alive_b2).1
  have HNW := fun W => new_any W
  have HT := Lib.hid hT
  clear hT
  go_enter Tryz.func8, Tryz.ntmps8
  go_wp2_with fail
  refine (HNW _).mono ?_
  rintro x wa ⟨rfl, he1, hl1⟩
  have hb1 := lay_below hl1
  obtain ⟨wb, hwb⟩ : ∃ wb, wb = wa.alloc (.cells #[.string ⟨#[97, 112, 112]⟩, .string ⟨#[97]⟩] 57) := ⟨_, rfl⟩
  have hl2 : Lay wa wb := by rw [hwb]; exact (Keep.refl _ _).alloc _
  have hlab := lab_new wa
  rw [← hwb] at hlab
  have hsb : w.heap.size ≤ wb.heap.size := Nat.le_trans hb1.size hl2.size
  have HA1 := Lib.hid (add_any (e := e1A) (he1.below (lay_below hl2)) hsb hlab M1 (by decide))
  rw [alive_1] at HA1
  simp only [Ent.val, e1A] at HA1
  have HB1 := Lib.hid (below_mid hb1 (lay_below hl2))
  have HWB := Lib.hid hwb.symm
  clear he1 hl1 hb1 hl2 hlab hsb hwb
  go_wp2_with fail
  rw [HWB.out]
  refine HA1.out.mono ?_
  rintro x w2 ⟨rfl, he2, hb2⟩
  have HB2 := Lib.hid (HB1.out.trans hb2)
  have HA2 := Lib.hid (add_any (e := e2A) (lv := .slice none 0 0) he2 HB2.out.size (LabsAt.nil (fun _ => True) _) M2 (by decide))
  have HA3 : Hid _ := Lib.hid (alive_2 ▸ HA2.out)
  clear he2 hb2 HA1 HA2
  simp only [Ent.val, e1A, e2A] at HA3
  go_wp2_with fail
  refine HA3.out.mono ?_
  rintro x w3 ⟨rfl, he3, hb3⟩
  have HB3 := Lib.hid (HB2.out.trans hb3)
  have HE3 : Hid (EngAt w3 w.heap.size (w.heap.size + 1) [e1A, e2A]) := Lib.hid he3
  clear he3 hb3 HA3
  obtain ⟨w4, hw4⟩ : ∃ w4, w4 = w3.alloc (.cells #[.string ⟨#[97, 112, 112]⟩, .bool false, .string ⟨#[97]⟩] 59) := ⟨_, rfl⟩
  have hr := mat_new w3
  rw [← hw4] at hr
  have hb4 : Below w3.heap.size w3 w4 := by rw [hw4]; exact (Below.refl _ w3).alloc (Nat.le_refl _) _
  have HASK := Lib.hid (ask_any [e1A, e2A] aA (.slice none 0 0) (.slice (some ⟨w3.heap.size, 0, none⟩) 1 1) false false ⟨0, [], ⟨#[]⟩⟩ (.slice none 0 0) 5 w.heap.size (w.heap.size + 1) w4 (HE3.out.below hb4) ⟨none, 0, rfl, by decide, .inl rfl⟩ hr (LabsAt.nil _ _) (by decide) alive_n
    (fun x hx => by simp only [List.mem_cons, List.not_mem_nil, or_false] at hx; rcases hx with rfl | rfl <;> decide) (Utf8Tabs_below HT.out (below_mid HB3.out hb4)))
  rw [alive_d] at HASK
  simp only [mkV] at HASK
  have HE4 := Lib.hid (HE3.out.below hb4)
  have HB4 := Lib.hid (below_mid HB3.out hb4)
  have HW4 := Lib.hid hw4.symm
  clear hw4 hr hb4
  go_wp2_with fail
  rw [HW4.out]
  refine HASK.out.mono ?_
  rintro x w5 ⟨hb5, h⟩
  rcases h with ⟨h, _⟩ | ⟨_, h, _⟩ | ⟨_, _, v, srt, hso, rfl, hent⟩
  · exact absurd rfl h
  · rw [alive_g] at h
    cases h
  obtain rfl := alive_s (show Sorts (ordC false) [e1A] srt by rw [← alive_f]; exact hso)
  rw [show Md.cut (ordC false) (mkO false ⟨0, [], ⟨#[]⟩⟩) (5 : Int).toNat [e1A] = ([e1A], true) by kernel_rfl] at hent ⊢
  obtain ⟨a5, c5, rfl, _, h0 | ⟨g, og, rfl, _, hg, hc⟩⟩ := hent
  · cases h0
  obtain ⟨lv, x0, x1, x2, _⟩ := hc 0 (by decide)
  simp only [Nat.zero_mul, Nat.add_zero, List.getElem_cons_zero, e1A] at x0 x1 x2
  have HLEN := Lib.hid (len_any w5 w.heap.size (w.heap.size + 1) [e1A, e2A] (HE4.out.below hb5))
  have HB5 := Lib.hid (below_mid HB4.out hb5)
  clear hc hb5 hso HASK
  go_wp2_with (go_at_call 15; refine HLEN.out.mono ?_; rintro x w6 ⟨rfl, rfl⟩)
  go_ret
  exact ⟨rfl, HB5.out⟩

end Go.Proofs.YtgfjbboeappemaaGreatDoor.E4
