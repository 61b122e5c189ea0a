/-
  magpieref15: THE DOCUMENT'S ANSWER: how many entries there are; what a question asks for.
-/
import Derived.Test.YtdjddlebjbngfaaGreatDoorAy15
import Derived.Test.YtdjddlebjbngfaaGreatDoorEr
import Derived.Test.YtdjddlebjbngfaaGreatDoorRc11
namespace Go.Proofs.YtdjddlebjbngfaaGreatDoor.E4
open Go.RowKit Go
open Go.Sort (grow)

set_option maxHeartbeats 8000000 in
set_option maxRecDepth 100000 in
theorem refCount_any {G L : Nat → Prop} {w : World} {v : Value} {es : List Ent} (h : EntsAt G L w v es) (hn : es.length ≤ 1000) :
    Calls Tryz.prog 15 #[v] w fun x w' => ∃ srt, Sorts (ordC false) (es.filter Ent.ok) srt ∧ x = .returned (.int .i64 (srt.length : Int)) ∧ Below w.heap.size w w' := by
  have hmx : Tryz.prog.follows .mixedOrders = true := by kernel_rfl
  obtain ⟨i24, z24, E24⟩ := elem24
  obtain ⟨ae, ce, rfl, he63, hec⟩ := id h
  have HEC := Lib.hid hec
  clear hec h
  go_enter Tryz.func15, Tryz.ntmps15
  go_wp2_with fail
  go_loopw [8, 3] (fun vi vb wr => ∃ (i : Nat) (S : List (Value × Ent)), vi = .int .i64 i ∧ i ≤ es.length ∧ Rk 3 (fun b => w.heap.size ≤ b) wr vb S.length (flatR S) ∧ RawL (fun b => b < w.heap.size) wr S ∧ S.map Prod.snd = (es.take i).filter Ent.ok ∧ Below w.heap.size w wr) (fun vi _ _ => es.length - (intOf vi).toNat)
  case atStart => exact ⟨0, [], rfl, Nat.zero_le _, Rk.nil 3 _ _, fun x hx => by simp at hx, by simp, Below.refl _ _⟩
  case round =>
    obtain ⟨i, S, rfl, hi, hsk, hsl, hS, hb⟩ := hrel
    have HSK := Lib.hid hsk
    have HSL := Lib.hid hsl
    have HSS := Lib.hid hS
    have HB := Lib.hid hb
    have HSn : Hid (S.length ≤ 1000) := Lib.hid (by
      have h1 := congrArg List.length hS
      have h2 := List.length_filter_le Ent.ok (es.take i)
      rw [List.length_map] at h1
      rw [List.length_take] at h2
      omega)
    clear hsk hsl hS
    by_cases hlt : i < es.length
    · rcases HEC.out with h0 | ⟨g, og, rfl, _, hgl, hce⟩
      · exact absurd hlt (by rw [h0]; simp)
      obtain ⟨lv, x0, x1, x2, x3⟩ := hce i hlt
      have hft := filter_take Ent.ok es i hlt
      generalize es[i] = e at x0 x1 x2 x3 hft
      obtain ⟨al, cl, rfl, _⟩ := id x3
      have y0 : wr.cell? ⟨g, og + i * 3, none⟩ = _ := (hb.cell hgl).trans x0
      have y1 : wr.cell? ⟨g, og + i * 3 + 1, none⟩ = _ := (hb.cell hgl).trans x1
      have y2 : wr.cell? ⟨g, og + i * 3 + 2, none⟩ = _ := (hb.cell hgl).trans x2
      obtain ⟨w7, hw7⟩ : ∃ w7, w7 = wr.alloc (.cells #[.int .i64 e.tm, .slice al e.labs.length cl, .string e.line] 29) := ⟨_, rfl⟩
      have hb7 : Below wr.heap.size wr w7 := by rw [hw7]; exact (Below.refl _ wr).alloc (Nat.le_refl _) _
      have hlab : LabsAt (fun b => b < w.heap.size) w7 (.slice al e.labs.length cl) e.labs := ((x3.mono (H := fun b => b < w.heap.size) fun b _ hlt => hlt).below1 hb).below1 hb7
      have hne7 : Bl w7 wr.heap.size 29 #[.int .i64 e.tm, .slice al e.labs.length cl, .string e.line] := by rw [hw7]; exact Bl.new wr 29 _
      have HGD := Lib.hid (refGood_any hlab)
      have HB7 := Lib.hid hb7
      have HLAB := Lib.hid hlab
      have HFT := Lib.hid hft
      have HW7 := Lib.hid hw7.symm
      have HN7 := Lib.hid hne7
      have z0 := hne7.cell 0
      have z1 := hne7.cell 1
      have z2 := hne7.cell 2
      simp only [List.getElem?_toArray, List.getElem?_cons_succ, List.getElem?_cons_zero] at z0 z1 z2
      simp only [Ent.val] at HGD
      clear x0 x1 x2 x3 hb7 hlab hft hb hne7 hw7 hce
      go_upto_region 5 with fail
      rw [HW7.out]
      clear y0 y1 y2
      cases hok : e.ok with
      | false =>
        rw [hok] at HGD
        go_wp2_with (go_at_call 28; refine HGD.out.mono ?_; rintro x w8 ⟨rfl, hl8⟩)
        have HB8 := Lib.hid (below_mid HB7.out (lay_below hl8))
        have HOK := Lib.hid hok
        clear hl8 hok HGD z0 z1 z2
        go_wp2
        go_roundw
        case rel => exact ⟨i + 1, S, by go_num, by omega, HSK.out.below1 HB8.out, HSL.out.below1 HB8.out, by rw [HSS.out, HFT.out, HOK.out]; simp, HB.out.trans (HB8.out.mono HB.out.size)⟩
        case measure => simp [intOf]; omega
      | true =>
        rw [hok] at HGD
        go_wp2_with fail
        refine HGD.out.mono ?_
        rintro x w8 ⟨rfl, hl8⟩
        have HOK := Lib.hid hok
        have hn8 := HN7.out.below (lay_below hl8)
        have z0 := hn8.cell 0
        have z1 := hn8.cell 1
        have z2 := hn8.cell 2
        simp only [List.getElem?_toArray, List.getElem?_cons_succ, List.getElem?_cons_zero] at z0 z1 z2
        have hsrc := src_entN (e := e) (w := w8) (al := al) (cl := cl)
        have HSRC := Lib.hid hsrc
        have hsn := HSn.out
        have HB8 := Lib.hid (below_mid HB7.out (lay_below hl8))
        have HL8 := Lib.hid (HLAB.out.lay hl8)
        have HS8 : Hid (w.heap.size ≤ w8.heap.size) := Lib.hid (Nat.le_trans HB.out.size HB8.out.size)
        clear hsrc hl8 hok HGD hn8
        go_wp2_with (at_builtin; refine wpList_append_rk E24 _ rfl _ _ 22 rfl (G := fun b => w.heap.size ≤ b) rfl ((HSK.out.below1 HB8.out).alloc _) ?c1 (.slice (some ⟨w8.heap.size, 0, none⟩) 1 1) 1 (flatR [((.slice al e.labs.length cl : Value), e)]) rfl HSRC.out ?c3 ?c4 ?_)
        case c1 =>
          intro k hk
          have h1 := HS8.out
          simp at hk
          omega
        case c3 => omega
        case c4 => omega
        intro v' w9 hrk9 hk9
        have hba : Below w8.heap.size w8 (w8.alloc (.cells #[.int .i64 e.tm, .slice al e.labs.length cl, .string e.line] 29)) := (Below.refl _ _).alloc (Nat.le_refl _) _
        have hb1a : Below w.heap.size w (w8.alloc (.cells #[.int .i64 e.tm, .slice al e.labs.length cl, .string e.line] 29)) := HB.out.trans ((below_mid HB8.out hba).mono HB.out.size)
        have hb9 : Below w.heap.size w w9 := keep_below ((HSK.out.below1 HB8.out).alloc _) (fun b hb => hb) hb1a hk9
        have HRK9 : Hid (Rk 3 (fun b => w.heap.size ≤ b) w9 v' (S ++ [((.slice al e.labs.length cl : Value), e)]).length (flatR (S ++ [((.slice al e.labs.length cl : Value), e)]))) := Lib.hid (by
          have := hrk9.mono (G' := fun b => w.heap.size ≤ b) fun b hb _ => hb.1
          rw [flatR_append, List.length_append]
          exact this)
        have hraw : RawL (fun b => b < w.heap.size) w9 (S ++ [((.slice al e.labs.length cl : Value), e)]) := fun z hz => by
          have hold : ∀ b, b < w.heap.size → ∀ u : World, Below w.heap.size w u → w9.heap[b]? = u.heap[b]? := fun b hb u hu => (hb9.block b hb).trans (hu.block b hb).symm
          rcases List.mem_append.1 hz with hz | hz
          · exact (HSL.out z hz).carry (Nat.le_trans HB8.out.size (Nat.le_trans hba.size hk9.size)) fun b hb _ => hold b hb wr HB.out
          · obtain rfl := List.mem_singleton.1 hz
            exact HL8.out.carry (Nat.le_trans hba.size hk9.size) fun b hb _ => hold b hb _ (HB.out.trans (HB8.out.mono HB.out.size))
        have HRAW := Lib.hid hraw
        have HB9 := Lib.hid hb9
        clear hrk9 hk9 hba hb1a hb9 hraw z0 z1 z2
        go_wp2
        go_roundw
        case rel => exact ⟨i + 1, S ++ [((.slice al e.labs.length cl : Value), e)], by go_num, by omega, HRK9.out, HRAW.out, by rw [List.map_append, HSS.out, HFT.out, HOK.out]; rfl, HB9.out⟩
        case measure => simp [intOf]; omega
    · obtain rfl : i = es.length := by omega
      have hR' := HSS.out
      rw [List.take_of_length_le (Nat.le_refl _)] at hR'
      have hents := HSK.out.ents HSL.out
      rw [hR'] at hents
      have HST := Lib.hid (refSort_any false hents (Nat.le_trans (List.length_filter_le _ _) hn))
      clear hb hR' hents
      go_wp2_with fail
      refine HST.out.mono ?_
      rintro r w9 hp
      obtain ⟨v9, R9, rfl, hrk9, hrl9, hso, hl9⟩ := hp
      obtain ⟨a9, c9, rfl⟩ := hrk9.shape
      have HSO := Lib.hid hso
      have HB9 := Lib.hid (HB.out.trans ((lay_below hl9).mono HB.out.size))
      clear hrk9 hrl9 hso hl9 HST
      go_wp2_with fail
      go_ret
      exact ⟨_, HSO.out, by rw [List.length_map]; rfl, HB9.out⟩

end Go.Proofs.YtdjddlebjbngfaaGreatDoor.E4
