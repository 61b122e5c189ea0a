/-
  (*Engine).Add.
-/
import Derived.Test.YtgfjbboeappemaaGreatDoorEn14
import Derived.Deep.RegionLaw
namespace Go.Proofs.YtgfjbboeappemaaGreatDoor.E4
open Go.RowKit Go

/-- The flow at a key, none if there is none yet. -/
def flOf (f : ByteArray → Option Fl) (s : ByteArray) (ls : List Lab) : Fl := match f s with | some t => t | none => ⟨.slice none 0 0, .slice none 0 0, ls, []⟩

set_option maxHeartbeats 8000000 in
set_option maxRecDepth 100000 in
theorem add_any {H : Nat → Prop} {w : World} {B gb : Nat} {es : List Ent} {e : Ent} {lv : Value} (h : EngAt w B gb es) (hB : B ≤ w.heap.size) (hl : LabsAt H w lv e.labs) (hm : e.Mod) (hn : es.length ≤ 1000) :
    Calls Tryz.prog 17 #[.pointer (some ⟨gb, 0, none⟩), e.val lv] w fun x w' => x = .returned (.tuple #[]) ∧ EngAt w' B gb (addE es e) ∧ Below B w w' := by
  have hmx : Tryz.prog.follows .mixedOrders = true := by kernel_rfl
  obtain ⟨κ, ω, mb, n, f, hE, hnn⟩ := id h
  obtain ⟨a, ca, rfl, h63, _⟩ := id hl
  obtain ⟨w1, hw1⟩ : ∃ w1, w1 = w.alloc (.cells #[.int .i64 e.tm, .slice a e.labs.length ca, .string e.line] 29) := ⟨_, rfl⟩
  have hl1 : Lay w w1 := by rw [hw1]; exact (Keep.refl _ w).alloc _
  have hk1 : Bl w1 w.heap.size 29 #[.int .i64 e.tm, .slice a e.labs.length ca, .string e.line] := by rw [hw1]; exact Bl.new w 29 _
  have HGD := Lib.hid (good_any (hl.lay hl1))
  have HW1 := Lib.hid hw1.symm
  have HE := Lib.hid hE
  have HK1 := Lib.hid hk1
  have HL1 := Lib.hid hl1
  have HL := Lib.hid hl
  have HH := Lib.hid h
  have c0 := hk1.cell 0
  have c1 := hk1.cell 1
  have c2 := hk1.cell 2
  simp only [List.getElem?_toArray, List.getElem?_cons_succ, List.getElem?_cons_zero] at c0 c1 c2
  clear hw1 hl1 hk1 hE hl h
  simp only [Ent.val] at HGD ⊢
  cases hok : e.ok with
  | false =>
    rw [hok] at HGD
    go_enter Tryz.func17, Tryz.ntmps17
    go_upto_region 1 with fail
    rw [HW1.out]
    go_wp2_with (go_at_call 34; refine HGD.out.mono ?_; rintro x w2 ⟨rfl, hl2⟩)
    have hl02 := Keep.trans HL1.out hl2
    refine bodyPost_ret (results_none rfl _ _ _) rfl ⟨rfl, ?_, ?_⟩
    · rw [addE_bad hok]; exact HH.out.below (lay_below hl02)
    · exact (lay_below hl02).mono hB
  | true =>
    rw [hok] at HGD
    go_enter Tryz.func17, Tryz.ntmps17
    go_upto_region 1 with fail
    rw [HW1.out]
    go_wp2_with fail
    refine HGD.out.mono ?_
    rintro x w2 ⟨rfl, hl2⟩
    have hl02 : Lay w w2 := Keep.trans HL1.out hl2
    have hk2 := HK1.out.below (lay_below hl2)
    have HST := Lib.hid (stream_any (HL.out.lay hl02) hm.labs)
    have HL02 := Lib.hid hl02
    have HK2 := Lib.hid hk2
    have c0 := hk2.cell 0
    have c1 := hk2.cell 1
    have c2 := hk2.cell 2
    simp only [List.getElem?_toArray, List.getElem?_cons_succ, List.getElem?_cons_zero] at c0 c1 c2
    simp only [Ent.val] at HST
    clear hl2 hl02 hk2 HGD
    go_wp2_with fail
    refine HST.out.mono ?_
    rintro x w3 ⟨rfl, hl3⟩
    have hl03 : Lay w w3 := Keep.trans HL02.out hl3
    have hk3 := HK2.out.below (lay_below hl3)
    have hE3 := HE.out.below (lay_below hl03)
    have hks := keyL_size hm.labs
    obtain ⟨t, ht⟩ : ∃ t, t = flOf f (keyL e.labs) e.labs := ⟨_, rfl⟩
    have hlk := hE3.m.look Tryz.underlying9 Tryz.underlying75 (z := .agg #[.slice none 0 0, .slice none 0 0]) (by kernel_rfl) hks
    have htv : ((f (keyL e.labs)).map Fl.val).getD (.agg #[.slice none 0 0, .slice none 0 0]) = .agg #[t.lv, t.cv] := by
      rw [ht]; unfold flOf
      cases f (keyL e.labs) <;> rfl
    have hsh : (∃ a n c, t.lv = .slice a n c) ∧ ∃ a n c, t.cv = .slice a n c := by
      rw [ht]; unfold flOf
      cases hf : f (keyL e.labs) with
      | none => exact ⟨⟨_, _, _, rfl⟩, ⟨_, _, _, rfl⟩⟩
      | some t =>
        obtain ⟨_, _, _, h4⟩ := HE.out.r _ t hf
        obtain ⟨a1, c1, h1, _⟩ := h4.l
        obtain ⟨a2, c2, h2⟩ := h4.c.shape
        exact ⟨⟨_, _, _, h1⟩, ⟨_, _, _, h2⟩⟩
    obtain ⟨⟨ya, yn, yc, hyl⟩, za, zn, zc, hzc⟩ := hsh
    rw [htv, hyl, hzc] at hlk
    have e0 := hE3.c.cell 0
    simp only [List.getElem?_toArray, List.getElem?_cons_zero] at e0
    obtain ⟨w4, hw4⟩ : ∃ w4, w4 = w3.alloc (.cells #[.slice ya yn yc, .slice za zn zc] 81) := ⟨_, rfl⟩
    have hl34 : Lay w3 w4 := by rw [hw4]; exact (Keep.refl _ w3).alloc _
    have hfb4 : Bl w4 w3.heap.size 81 #[t.lv, t.cv] := by rw [hw4, hyl, hzc]; exact Bl.new w3 81 _
    have hl04 : Lay w w4 := Keep.trans hl03 hl34
    have hk4 := hk3.below (lay_below hl34)
    have d0 := hk4.cell 0
    have d1 := hk4.cell 1
    have d2 := hk4.cell 2
    simp only [List.getElem?_toArray, List.getElem?_cons_succ, List.getElem?_cons_zero] at d0 d1 d2
    have hhas : hasE es e = hasE (flatC t.CH) e := by
      rw [HE.out.has e, ht]; unfold flOf
      cases f (keyL e.labs) <;> rfl
    have HHAS := Lib.hid hhas
    have HT := Lib.hid ht
    have HL03 := Lib.hid hl03
    have HL04 := Lib.hid hl04
    have HFB4 := Lib.hid hfb4
    have HW4 := Lib.hid hw4.symm
    have HKS := Lib.hid hks
    have HFA : Hid (Calls Tryz.prog 36 #[.pointer (some ⟨w3.heap.size, 0, none⟩), e.val (.slice a e.labs.length ca)] w4 (FaddP (fun b => B ≤ b ∧ κ b = 4 ∧ ω b = keyL e.labs ∧ b < w.heap.size) (fun b => B ≤ b ∧ κ b = 3 ∧ b < w.heap.size) w4 w3.heap.size e.labs t.CH e)) := Lib.hid (by
      have hs03 := hl03.size
      rw [ht] at hfb4 ⊢
      unfold flOf at hfb4 ⊢
      cases hf : f (keyL e.labs) with
      | none =>
        rw [hf] at hfb4
        exact fadd_new hfb4 (HL.out.lay hl04) (by have := hm.labs.1; omega)
      | some t =>
        rw [hf] at hfb4
        obtain ⟨h1, h2, h3, h4⟩ := HE.out.r _ t hf
        have hls : e.labs = t.ls := keyL_inj hm.labs h2 h1
        have h5 := (h4.mono (G' := fun b => B ≤ b ∧ κ b = 4 ∧ ω b = keyL e.labs ∧ b < w.heap.size) (L' := fun b => B ≤ b ∧ κ b = 3 ∧ b < w.heap.size) (fun b hb hlt => ⟨hb.1, hb.2.1, hb.2.2, hlt⟩) fun b hb hlt => ⟨hb.1, hb.2, hlt⟩).lay hl04
        have hfl := HE.out.fl_len hf
        show Calls _ _ _ _ (FaddP _ _ w4 w3.heap.size e.labs t.CH e)
        rw [← hls] at h5
        exact fadd_old hfb4 h5 h3 (HL.out.lay hl04) rfl (fun h => by omega) (fun h => by omega) (fun b hb h => by omega) (fun b hb => by have := hl04.size; omega) (fun b hb => by have := hl04.size; omega) (by omega))
    simp only [Ent.val] at HFA
    clear hl3 hk3 hE3 hks ht htv hyl hzc hw4 hl34 hfb4 hl04 hk4 hhas hl03 c0 c1 c2 HST HK2 HK1
    go_upto_region 4 with fail
    rw [HW4.out]
    clear e0 hlk
    go_wp2_with fail
    refine HFA.out.mono ?_
    rintro x w5 ⟨rfl, hyes, hno⟩
    cases hhe : hasE (flatC t.CH) e with
    | true =>
      have hl45 := hyes hhe
      have hl05 := Keep.trans HL04.out hl45
      clear hyes hno d0 d1 d2 HFA
      go_wp2_with fail
      refine bodyPost_end (results_none rfl _ _ _) rfl ⟨rfl, ?_, ?_⟩
      · rw [addE_old (HHAS.out.trans hhe)]; exact HH.out.below (lay_below hl05)
      · exact (lay_below hl05).mono hB
    | false =>
      obtain ⟨lv', cv', CH', C, hC, hbl, hfl, hc0, hmem, hk5⟩ := hno hhe
      clear hyes hno d0 d1 d2 HFA
      have hl04 := HL04.out
      have hs04 := hl04.size
      have hs03 := HL03.out.size
      have hE4 := HE.out.below (lay_below hl04)
      have hkp := hE4.k
      have hgp := hE4.g
      have hgl4 := hE4.c.lt
      have hml4 := hE4.m.lt
      have hgw := HE.out.c.lt
      have hmw := HE.out.m.lt
      have hnfb : ∀ b, (b = w3.heap.size ∨ (B ≤ b ∧ κ b = 4 ∧ ω b = keyL e.labs ∧ b < w.heap.size)) → b ≠ gb ∧ b ≠ mb := fun b hb => by
        rcases hb with hb | hb
        · exact ⟨by omega, by omega⟩
        · exact ⟨fun e => by rw [e] at hb; omega, fun e => by rw [e] at hb; omega⟩
      have hc5 : Bl w5 gb 77 #[.map (some mb), .int .i64 (es.length : Int)] := (hk5.block gb hgl4 fun h => (hnfb gb h).1 rfl).trans hE4.c
      have hm5 : MapAt Tryz.prog 9 w5.drew mb n (fun s => (f s).map Fl.val) := hE4.m.carry ((hk5.block mb hml4 fun h => (hnfb mb h).2 rfl))
      obtain ⟨w6, hrun, hm6, hk6⟩ := hm5.store (e := 81) Tryz.underlying9 Tryz.underlying75 (by unfold maxLen; omega) HKS.out (.agg #[lv', cv'])
      have hc6 : Bl w6 gb 77 #[.map (some mb), .int .i64 (es.length : Int)] := (hk6.block gb hc5.lt (fun e => by rw [e] at hgp; omega)).trans hc5
      have hc7 : Bl (w6.setCell ⟨gb, 1, none⟩ (.int .i64 ((es.length : Int) + 1))) gb 77 #[.map (some mb), .int .i64 ((es.length : Int) + 1)] := by
        have := hc6.set12 1 (.int .i64 ((es.length : Int) + 1))
        simpa only [List.setIfInBounds_toArray, List.set_cons_zero, List.set_cons_succ] using this
      obtain ⟨w7, hw7⟩ : ∃ w7, w7 = w6.setCell ⟨gb, 1, none⟩ (.int .i64 ((es.length : Int) + 1)) := ⟨_, rfl⟩
      have hk7 : Keep (fun b => b = gb) w6 w7 := by rw [hw7]; exact keep_set12 (Keep.refl _ _) 1 _
      rw [← hw7] at hc7
      have hm7 : MapAt Tryz.prog 9 w7 mb (n + 1) (fun x => if x = keyL e.labs then some (Value.agg #[lv', cv']) else (f x).map Fl.val) := hm6.carry (hk7.block mb hm6.lt (fun e => by rw [e] at hkp; omega))
      have hk57 : Keep (fun b => b = gb ∨ b = mb) w5 w7 := Keep.trans ((((Keep.refl _ w5).drew).trans hk6).into fun b _ h => .inr h) (hk7.into fun b _ h => .inl h)
      have hend := add_end (t' := ⟨lv', cv', e.labs, CH'⟩) (CH := t.CH) HE.out hB hm.labs (HHAS.out.trans hhe) hl04 (by omega) hC hk5 rfl hc0 (by rw [HT.out]; unfold flOf; cases f (keyL e.labs) <;> rfl) hfl hmem hk57 hc7 hm7 hnn
      have HEND := Lib.hid hend
      have HW7 := Lib.hid hw7.symm
      obtain ⟨b1, b2, b3, hlv'⟩ : ∃ a n c, lv' = .slice a n c := by obtain ⟨a1, c1, h1, _⟩ := hfl.l; exact ⟨_, _, _, h1⟩
      obtain ⟨b4, b5, b6, hcv'⟩ : ∃ a n c, cv' = .slice a n c := by obtain ⟨a1, c1, h1⟩ := hfl.c.shape; exact ⟨_, _, _, h1⟩
      rw [hlv', hcv'] at hrun hbl
      have g0 := hc5.cell 0
      have q1 := hc6.cell 1
      have z1 := hc6.frozen 1
      have f0 := hbl.cell 0
      have f1 := hbl.cell 1
      simp only [List.getElem?_toArray, List.getElem?_cons_succ, List.getElem?_cons_zero] at g0 q1 f0 f1
      have hwl : IntKind.i64.wrap ((es.length : Int) + 1) = (es.length : Int) + 1 := by rw [IntKind.wrap_i64]; omega
      clear hl04 hE4 hc5 hm5 hm6 hk6 hc6 hc7 hw7 hk7 hm7 hk57 hend hbl hfl hmem hk5 hlv' hcv' hnfb
      go_wp2_with fail
      go_region
      go_wp2_with fail
      rw [HW7.out]
      refine bodyPost_end (results_none rfl _ _ _) rfl ⟨rfl, ?_⟩
      rw [addE_yes hok (HHAS.out.trans hhe)]
      exact HEND.out

end Go.Proofs.YtgfjbboeappemaaGreatDoor.E4
