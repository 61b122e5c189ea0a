/-
  WHAT THE LAWS OF LAYER 15 SHARE: is more there than is played, nothing is added to no engine, and what the document tells.
-/
import Derived.Test.YtdjddlebjbngfaaGreatDoorRg15
import Derived.Test.YtdjddlebjbngfaaGreatDoorNw15
namespace Go.Proofs.YtdjddlebjbngfaaGreatDoor.E4
open Go.RowKit Go
open Go.Sort (grow)

/-- Is more there than is played? -/
def bigF (es : List Ent) (a : Ask) (m : Ent) : Bool := (decide (60 < es.length) || es.any Ent.big) || a.great || m.big

set_option maxRecDepth 100000 in
theorem lawGreat_any {G L : Nat → Prop} {w : World} {v qv : Value} {es : List Ent} {a : Ask} {has : Bool} {m : Ent} {ml : Value} (h : EntsAt G L w v es) (hq : AskAt w qv a) (hm : LabsAt (fun _ => True) w ml m.labs) :
    Calls Tryz.prog 8 #[v, qv, mkV has m ml] w fun x w' => x = .returned (.bool (bigF es a m)) ∧ Below w.heap.size w w' := by
  obtain ⟨ae, ce, rfl, he63, _⟩ := id h
  obtain ⟨ma, mc, rfl, hm63, _⟩ := id hm
  obtain ⟨av, mv, rfl, hall, hmat⟩ := id hq
  obtain ⟨aa, ca, rfl, ha63, _⟩ := id hall
  obtain ⟨am, cm, rfl, hm6, _⟩ := id hmat
  unfold mkV Ask.cells bigF
  unfold Ask.cells at hq
  obtain ⟨w1, hw1⟩ : ∃ w1, w1 = w.alloc (.cells #[.int .i64 a.kd, .int .i64 a.src, .int .i64 a.til, .slice aa a.all.length ca, .slice am a.mat.length cm] 26) := ⟨_, rfl⟩
  have hb1 : Below w.heap.size w w1 := by rw [hw1]; exact (Below.refl _ w).alloc (Nat.le_refl _) _
  have hk1 : Bl w1 w.heap.size 26 #[.int .i64 a.kd, .int .i64 a.src, .int .i64 a.til, .slice aa a.all.length ca, .slice am a.mat.length cm] := by rw [hw1]; exact Bl.new w 26 _
  obtain ⟨w2, hw2⟩ : ∃ w2, w2 = w1.alloc (.cells #[.bool has, .int .i64 m.tm, .slice ma m.labs.length mc, .string m.line] 31) := ⟨_, rfl⟩
  have hb12 : Below w1.heap.size w1 w2 := by rw [hw2]; exact (Below.refl _ w1).alloc (Nat.le_refl _) _
  have hs1 : w1.heap.size = w.heap.size + 1 := by rw [hw1]; simp
  have hk2 : Bl w2 (w.heap.size + 1) 31 #[.bool has, .int .i64 m.tm, .slice ma m.labs.length mc, .string m.line] := by rw [hw2, ← hs1]; exact Bl.new w1 31 _
  have hb2 := below_mid hb1 hb12
  have hka := Bl.below hk1 hb12
  rw [hw1] at hw2
  have HW2 := Lib.hid hw2.symm
  have HMN := Lib.hid (many_any (h.below1 hb2) 60 (by omega))
  have HB2 := Lib.hid hb2
  have HKA := Lib.hid hka
  have HKM := Lib.hid hk2
  have HQ := Lib.hid (hq.below hb2)
  have HM := Lib.hid (hm.below1 hb2)
  clear h hq hm hall hmat hw1 hw2 hb1 hb12 hb2 hk1 hk2 hka hs1
  generalize hmb : (decide (60 < es.length) || es.any Ent.big) = mb at HMN ⊢
  clear hmb
  go_enter Tryz.func8, Tryz.ntmps8
  go_upto_region 1 with fail
  rw [HW2.out]
  cases mb with
  | true =>
    go_wp2_with (go_at_call 18; refine HMN.out.mono ?_; rintro x w3 ⟨rfl, hl3⟩)
    go_ret
    exact ⟨rfl, below_mid HB2.out (lay_below hl3)⟩
  | false =>
    go_wp2_with fail
    refine HMN.out.mono ?_
    rintro x w3 ⟨rfl, hl3⟩
    have hb3 := lay_below hl3
    have HG := Lib.hid (askGreat_any a _ w3 (HQ.out.below hb3))
    have hka3 := HKA.out.below hb3
    have c0 := hka3.cell 0
    have c1 := hka3.cell 1
    have c2 := hka3.cell 2
    have c3 := hka3.cell 3
    have c4 := hka3.cell 4
    simp only [List.getElem?_toArray, List.getElem?_cons_succ, List.getElem?_cons_zero] at c0 c1 c2 c3 c4
    have HB3 := Lib.hid hb3
    clear hka3 hb3 hl3 HMN
    cases hag : a.great with
    | true =>
      rw [hag] at HG
      go_wp2_with (go_at_call 21; refine HG.out.mono ?_; rintro x w4 ⟨rfl, hb4⟩)
      go_ret
      exact ⟨by rw [hag]; rfl, below_mid HB2.out (below_mid HB3.out hb4)⟩
    | false =>
      rw [hag] at HG
      go_wp2_with fail
      refine HG.out.mono ?_
      rintro x w4 ⟨rfl, hb4⟩
      have hb24 := below_mid HB3.out hb4
      have HGR := Lib.hid (great_any (HM.out.below1 hb24))
      have hkm4 := HKM.out.below hb24
      have d1 := hkm4.cell 1
      have d2 := hkm4.cell 2
      have d3 := hkm4.cell 3
      simp only [List.getElem?_toArray, List.getElem?_cons_succ, List.getElem?_cons_zero] at d1 d2 d3
      have HB4 := Lib.hid (below_mid HB2.out hb24)
      simp only [Ent.val] at HGR
      clear hkm4 hb24 hb4 c0 c1 c2 c3 c4
      go_wp2_with (go_at_call 22; refine HGR.out.mono ?_; rintro x w5 ⟨rfl, hl5⟩)
      go_ret
      exact ⟨by rw [hag]; rfl, below_mid HB4.out (lay_below hl5)⟩

set_option maxRecDepth 100000 in
theorem add_nil (w : World) : Calls Tryz.prog 16 #[.pointer none, .agg #[.int .i64 0, .slice none 0 0, .string ⟨#[]⟩]] w fun x w' => x = .returned (.tuple #[]) ∧ Below w.heap.size w w' := by
  have HB : Hid (Below w.heap.size w (w.alloc (.cells #[.int .i64 0, .slice none 0 0, .string ⟨#[]⟩] 29))) := Lib.hid ((Below.refl _ w).alloc (Nat.le_refl _) _)
  go_enter Tryz.func16, Tryz.ntmps16
  go_wp2_with fail
  refine bodyPost_ret (v := .tuple #[]) (by simp [results, Tryz.results16, go_sem]) rfl ⟨rfl, HB.out⟩

def e1A : Ent := ⟨2, [], ⟨#[120]⟩⟩
def e2A : Ent := ⟨1, [], ⟨#[]⟩⟩
def aA : Ask := ⟨3, 1, 9, [], []⟩
theorem alive_1 : addE [] e1A = [e1A] := by kernel_rfl
theorem alive_2 : addE [e1A] e2A = [e1A, e2A] := by kernel_rfl
theorem alive_3 : addE [e1A, e2A] e2A = [e1A, e2A] := by kernel_rfl
theorem alive_f : [e1A, e2A].filter (inT 1 9) = [e1A, e2A] := by kernel_rfl
theorem alive_g : aA.gd = true := by kernel_rfl
theorem alive_o : ordC true e1A e2A = -1 := by kernel_rfl
theorem alive_s {srt : List Ent} (h : Sorts (ordC true) [e1A, e2A] srt) : srt = [e1A, e2A] := Sorts.unique (ordC_lc true) h (⟨List.pairwise_cons.2 ⟨fun a ha => by rw [List.mem_singleton.1 ha]; exact alive_o, List.pairwise_singleton _ _⟩, fun _ => Iff.rfl⟩ : Sorts (ordC true) [e1A, e2A] [e1A, e2A]) fun _ => Iff.rfl
theorem alive_d : aA.dyn (.slice none 0 0) (.slice none 0 0) = .iface 51 (.agg #[.int .i64 1, .int .i64 9]) := dyn3 rfl _ _

set_option maxRecDepth 100000 in
theorem alive_any (w : World) (hm : MaxI w) : Calls Tryz.prog 7 #[] w fun x w' => x = .returned (.bool true) ∧ Below w.heap.size w w' := by
  have hmx : Tryz.prog.follows .mixedOrders = true := by kernel_rfl
  have HNW := Lib.hid (new_any w hm)
  clear hm
  go_enter Tryz.func7, Tryz.ntmps7
  go_wp2_with fail
  refine HNW.out.mono ?_
  rintro x wa ⟨rfl, he1, hl1⟩
  have HB1 := Lib.hid (lay_below hl1)
  have HA1 := Lib.hid (add_any (e := e1A) (lv := .slice none 0 0) he1 (LabsAt.nil (fun _ => False) _) (fun _ h => h.elim) (by decide))
  rw [alive_1] at HA1
  simp only [Ent.val, e1A] at HA1
  clear he1 hl1
  go_wp2_with fail
  refine HA1.out.mono ?_
  rintro x w2 ⟨rfl, he2, hb2⟩
  have HB2 := Lib.hid (HB1.out.trans hb2)
  have HA2 := Lib.hid (add_any (e := e2A) (lv := .slice none 0 0) he2 (LabsAt.nil (fun _ => False) _) (fun _ h => h.elim) (by decide))
  have HA3 : Hid _ := Lib.hid (alive_2 ▸ HA2.out)
  clear he2 hb2 HA1 HA2
  simp only [Ent.val, e1A, e2A] at HA3
  go_wp2_with fail
  refine HA3.out.mono ?_
  rintro x w3 ⟨rfl, he3, hb3⟩
  have HB3 := Lib.hid (HB2.out.trans hb3)
  have HE3 : Hid (EngAt w3 w.heap.size w.heap.size [e1A, e2A]) := Lib.hid he3
  have HA4 := Lib.hid (add_any (e := e2A) (lv := .slice none 0 0) HE3.out (LabsAt.nil (fun _ => False) _) (fun _ h => h.elim) (by decide))
  have HA5 : Hid _ := Lib.hid (alive_3 ▸ HA4.out)
  clear he3 hb3 HA3 HA4
  simp only [Ent.val, e1A, e2A] at HA5
  go_wp2_with fail
  refine HA5.out.mono ?_
  rintro x w4 ⟨rfl, he4, hb4⟩
  have HB4 := Lib.hid (HB3.out.trans hb4)
  have HE4 : Hid (EngAt w4 w.heap.size w.heap.size [e1A, e2A]) := Lib.hid he4
  have HASK := Lib.hid (ask_any [e1A, e2A] aA (.slice none 0 0) (.slice none 0 0) false true ⟨0, [], ⟨#[]⟩⟩ (.slice none 0 0) 1 w.heap.size w.heap.size w4 HE4.out ⟨none, 0, 0, rfl⟩ ⟨none, 0, 0, rfl⟩ (LabsAt.nil _ _) (by decide))
  rw [alive_d] at HASK
  simp only [mkV] at HASK
  clear he4 hb4 HA5
  go_wp2_with fail
  refine HASK.out.mono ?_
  rintro x w5 ⟨hb5, h⟩
  rcases h with ⟨h, _⟩ | ⟨_, h, _⟩ | ⟨_, _, v, srt, hso, rfl, hent⟩
  · exact absurd rfl h
  · rw [alive_g] at h
    cases h
  obtain rfl := alive_s (show Sorts (ordC true) [e1A, e2A] srt by rw [← alive_f]; exact hso)
  rw [show Md.cut (ordC true) (mkO false ⟨0, [], ⟨#[]⟩⟩) (1 : Int).toNat [e1A, e2A] = ([e1A], false) by kernel_rfl] at hent ⊢
  obtain ⟨a5, c5, rfl, _, h0 | ⟨g, og, rfl, _, hg, hc⟩⟩ := hent
  · cases h0
  obtain ⟨lv, x0, x1, x2, _⟩ := hc 0 (by decide)
  simp only [Nat.zero_mul, Nat.add_zero, List.getElem_cons_zero, e1A] at x0 x1 x2
  have HLEN := Lib.hid (len_any w5 w.heap.size w.heap.size [e1A, e2A] (HE4.out.below hb5))
  have HB5 := Lib.hid (HB4.out.trans (hb5.mono HB4.out.size))
  clear hc hb5 hso HASK
  go_wp2_with (go_at_call 14; refine HLEN.out.mono ?_; rintro x w6 ⟨rfl, rfl⟩)
  go_ret
  exact ⟨rfl, HB5.out⟩

end Go.Proofs.YtdjddlebjbngfaaGreatDoor.E4
