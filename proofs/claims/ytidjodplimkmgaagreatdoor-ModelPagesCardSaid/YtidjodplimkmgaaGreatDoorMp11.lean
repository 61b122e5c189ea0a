/-
  THE PAGES, ONE BEHIND THE OTHER, ARE THE ANSWER: the law's walk.
-/
import Derived.Test.YtidjodplimkmgaaGreatDoorAl11
import Derived.Test.YtidjodplimkmgaaGreatDoorAr11
import Derived.Test.YtidjodplimkmgaaGreatDoorPw11
import Derived.Test.YtidjodplimkmgaaGreatDoorMq11
namespace Go.Proofs.YtidjodplimkmgaaGreatDoor.E4
open Go.RowKit Go
open Go.Sort (grow)

theorem take_flat_snoc {α : Type} (l : List (List α)) (k : Nat) (h : k < l.length) : (l.take k).flatten ++ l[k] = (l.take (k + 1)).flatten := by
  rw [← List.take_append_getElem h, List.flatten_append]
  simp

theorem EntsAt.src_raw {G L : Nat → Prop} {w : World} {v : Value} {es : List Ent} (h : EntsAt G L w v es) : ∃ R, R.map Prod.snd = es ∧ RawL L w R ∧ Src Tryz.prog 3 33 v R.length (flatR R) w := by
  obtain ⟨a, c, rfl, hn, h0⟩ := id h
  by_cases he : es = []
  · subst he
    refine ⟨[], rfl, (fun x hx => nomatch hx), ?_⟩
    cases a with
    | none => exact Src.ofNil _ Tryz.underlying33 c
    | some p => exact Src.ofSlice _ Tryz.underlying33 p 0 c [] rfl (fun j u hu => by simp at hu) (fun u hu => by simp at hu)
  · obtain ⟨b, off, R, rfl, hR, hm, _, hlt, hr, hL⟩ := h.raw he
    rw [hR]
    exact ⟨R, hm, hL, hr.src hL c⟩

set_option maxHeartbeats 16000000 in
set_option maxRecDepth 100000 in
theorem modelPages_walk (l : List Int) (u : Value) (rows : List (List Ent)) (rv : Value) (n : Int) (w : World) (hu : IntsAt w u l) (hr : RowsAt w rv rows) (hT : Lib.Utf8Tabs 1 2 w) (hSh : w.ShapedOpen Tryz.prog) :
    Calls Tryz.prog 3 #[u, rv, .int .i64 n] w fun e w' => e = .returned (.bool true) ∧ Below w.heap.size w w' := by
  have hmx : Tryz.prog.follows .mixedOrders = true := by kernel_rfl
  obtain ⟨i24, z24, E24⟩ := elem24
  obtain ⟨a, cap, rfl, hl63, _⟩ := id hu
  obtain ⟨ar, cr, rfl, hr63, _⟩ := id hr
  have HAL := Lib.hid (alive_any w hSh)
  have HU0 := Lib.hid hu
  have HR0 := Lib.hid hr
  have HT0 := Lib.hid hT
  have HS0 := Lib.hid hSh
  clear hu hr hT hSh
  go_enter Tryz.func3, Tryz.ntmps3
  go_wp2_with fail
  refine HAL.out.mono ?_
  rintro e w1 ⟨rfl, hb1⟩
  have HB1 := Lib.hid hb1
  have HU1 := Lib.hid (HU0.out.below9 hb1)
  have HR1 := Lib.hid (HR0.out.below1 hb1)
  have HT1 := Lib.hid (tabs_below HT0.out hb1)
  have HS1 := Lib.hid (shaped_below HS0.out hb1)
  have HG := Lib.hid (greatIn_any l _ rows _ w1 HU1.out HR1.out)
  clear hb1 HAL HU0 HR0 HT0 HS0
  cases hbig : bigIn l rows with
  | true =>
    rw [hbig] at HG
    clear hbig
    go_wp2_with (go_at_call 5; refine HG.out.mono ?_; rintro e w2 ⟨rfl, hb2⟩)
    go_ret
    exact ⟨rfl, below_mid HB1.out hb2⟩
  | false =>
  rw [hbig] at HG
  have HN := Lib.hid (bigIn_no hbig)
  have HFL := Lib.hid (bigIn_flat hbig)
  clear hbig
  go_wp2_with fail
  refine HG.out.mono ?_
  rintro e w2 ⟨rfl, hb2⟩
  have HB3 := Lib.hid (below_mid HB1.out hb2)
  have HU3 := Lib.hid (HU1.out.below9 hb2)
  have HR3 := Lib.hid (HR1.out.below1 hb2)
  have HT3 := Lib.hid (tabs_below HT1.out hb2)
  have HS3 := Lib.hid (shaped_below HS1.out hb2)
  have HQ := Lib.hid (query_any l w2 _ HU3.out)
  clear hb2 HG HB1 HU1 HR1 HT1 HS1
  go_wp2_with fail
  refine HQ.out.mono ?_
  rintro e w4 ⟨vq, rfl, ⟨mv, kv, rfl, hmq, hkq⟩, hl4⟩
  have HQF := Lib.hid (query_fit l)
  have HQW := Lib.hid (query_whole l)
  have HLIM := Lib.hid (query_lim l)
  generalize Qy.query l = q at hmq hkq HQF HQW HLIM ⊢
  obtain ⟨am, cm, rfl, hq63, _⟩ := id hmq
  obtain ⟨ak, ck, rfl⟩ := hkq.shape
  have hb4 := hl4.below
  obtain ⟨w5, hw5⟩ : ∃ w5, w5 = w4.alloc (.cells #[.int .i64 q.src, .int .i64 q.til, .slice am q.mat.length cm, .int .i64 q.fil.op, .string q.fil.name, .string q.fil.text, .slice ak q.fil.kids.length ck, .bool q.desc, .int .i64 q.lim, .string q.page] 31) := ⟨_, rfl⟩
  have hb45 : Below w4.heap.size w4 w5 := by rw [hw5]; exact (Below.refl _ w4).alloc (Nat.le_refl _) _
  have hq5 : CB w5 w4.heap.size 31 #[.int .i64 q.src, .int .i64 q.til, .slice am q.mat.length cm, .int .i64 q.fil.op, .string q.fil.name, .string q.fil.text, .slice ak q.fil.kids.length ck, .bool q.desc, .int .i64 q.lim, .string q.page] := by rw [hw5]; exact CB.new w4 31 _
  have hb35 := below_mid hb4 hb45
  have HP5 : Hid (MQ w5 w4.heap.size q am cm ak ck rows (.slice ar rows.length cr)) := Lib.hid ⟨hq5, hmq.below9 hb45, KsAt.below hb45 _ _ hkq, HR3.out.below1 hb35, shaped_below HS3.out hb35⟩
  have HB5 := Lib.hid (below_mid HB3.out hb35)
  have HT5 := Lib.hid (tabs_below HT3.out hb35)
  have HW5 := Lib.hid hw5.symm
  clear hmq hkq hl4 hb4 hw5 hb45 hq5 hb35 HB3 HU3 HR3 HT3 HS3 HQ
  simp only [Qy.val]
  go_upto_region 6 with fail
  rw [HW5.out]
  generalize w4.heap.size = B at HP5 ⊢
  have HF := Lib.hid HN.out.2.2.1
  have HL1 := Lib.hid HLIM.out.1
  have HL8 := Lib.hid HLIM.out.2
  clear HLIM HN
  -- the document's answer
  have c0 := HP5.out.c.cell 0
  have c1 := HP5.out.c.cell 1
  have c2 := HP5.out.c.cell 2
  have c3 := HP5.out.c.cell 3
  have c4 := HP5.out.c.cell 4
  have c5 := HP5.out.c.cell 5
  have c6 := HP5.out.c.cell 6
  have c7 := HP5.out.c.cell 7
  have c8 := HP5.out.c.cell 8
  have c9 := HP5.out.c.cell 9
  simp only [List.getElem?_toArray, List.getElem?_cons_succ, List.getElem?_cons_zero] at c0 c1 c2 c3 c4 c5 c6 c7 c8 c9
  have HRA := Lib.hid (refAnswer_any q _ rows _ w5 HP5.out.qat HQF.out HP5.out.r HF.out (Nat.le_trans HFL.out (by decide)) HQW.out HT5.out)
  simp only [Qy.val] at HRA
  go_wp2_with fail
  refine HRA.out.mono ?_
  rintro e w6 ⟨v6, out, rfl, hent6, hsq6, hso6, hb6⟩
  have HP6 := Lib.hid (HP5.out.below hb6)
  have HB6 := Lib.hid (below_mid HB5.out hb6)
  have HE6 := Lib.hid hent6.any
  have HSO := Lib.hid hso6
  have HOL : Hid (out.length ≤ 360) := Lib.hid (Nat.le_trans (Sorts.short (ordC_lc q.desc) hso6) (Nat.le_trans (kept_len q rows) HFL.out))
  obtain ⟨a6, c6', rfl⟩ : ∃ a c, v6 = .slice a out.length c := by
    rcases hsq6 with ⟨h1, h2⟩ | ⟨g, c, h1, _⟩
    · exact ⟨none, 0, by rw [h1, h2]⟩
    · exact ⟨_, c, h1⟩
  clear hent6 hsq6 hso6 hb6 HRA HP5 HB5 HT5 c0 c1 c2 c3 c4 c5 c6 c7 c8 c9
  -- the program's pages
  have c0 := HP6.out.c.cell 0
  have c1 := HP6.out.c.cell 1
  have c2 := HP6.out.c.cell 2
  have c3 := HP6.out.c.cell 3
  have c4 := HP6.out.c.cell 4
  have c5 := HP6.out.c.cell 5
  have c6 := HP6.out.c.cell 6
  have c7 := HP6.out.c.cell 7
  have c8 := HP6.out.c.cell 8
  have c9 := HP6.out.c.cell 9
  simp only [List.getElem?_toArray, List.getElem?_cons_succ, List.getElem?_cons_zero] at c0 c1 c2 c3 c4 c5 c6 c7 c8 c9
  have HPG := Lib.hid (pages_any q _ rows _ w6 HP6.out.qat HQF.out HP6.out.r HF.out (Nat.le_trans HFL.out (by decide)) HP6.out.s)
  simp only [Qy.val] at HPG
  go_wp2_with fail
  refine HPG.out.mono ?_
  rintro e w7 ⟨BL, BR, v7, out7, rfl, _, _, hbl7, hbr7, hent7, hsq7, hso7, hb7⟩
  obtain rfl := (Sorts.unique (ordC_lc q.desc) hso7 HSO.out (fun _ => Iff.rfl)).symm
  have HGO := Lib.hid (pgone_any q hbl7 hbr7 hent7 hsq7 HL1.out HL8.out HOL.out 1000)
  have HP7 := Lib.hid (HP6.out.below hb7)
  have HB7 := Lib.hid (below_mid HB6.out hb7)
  have HE7 := Lib.hid (HE6.out.below1 hb7)
  clear hbl7 hbr7 hent7 hsq7 hso7 hb7 HPG HP6 HB6 HE6 c0 c1 c2 c3 c4 c5 c6 c7 c8 c9
  go_wp2_with fail
  refine HGO.out.mono ?_
  rintro e w8 ⟨v8, rfl, hro8, hl8⟩
  have hb8 := lay_below hl8
  have HP8 := Lib.hid (HP7.out.below hb8)
  have HB8 := Lib.hid (below_mid HB7.out hb8)
  have HE8 := Lib.hid (HE7.out.below1 hb8)
  obtain ⟨lim, hlim⟩ : ∃ lim, lim = q.lim.toNat := ⟨_, rfl⟩
  have hl1 : 1 ≤ lim := by have := HL1.out; omega
  have hle : q.lim = (lim : Int) := by have := HL1.out; omega
  have hcs := chunks_short hl1 out
  have hol := HOL.out
  have HXF : Hid ((chunks lim out).flatten = out) := Lib.hid (Md.pages_flat hl1 _ _ (Nat.le_refl _))
  have HXS : Hid (∀ i (hi : i < (chunks lim out).length), ((chunks lim out)[i]).length = min lim (out.length - i * lim)) := Lib.hid fun i hi => Md.pages_size _ _ i hi
  have HXU : Hid (∀ i, i + 1 < (chunks lim out).length → (i + 1) * lim < out.length) := Lib.hid fun i hi => Md.pages_full _ _ i hi
  have HXC := Lib.hid (chunks_count hl1 out)
  rw [← hlim, show (1000 : Int).toNat = 1000 from rfl, List.take_of_length_le (by omega)] at hro8
  have HLE := Lib.hid hle
  have HLI := Lib.hid hlim
  obtain ⟨xs, hxs⟩ : ∃ xs, xs = chunks lim out := ⟨_, rfl⟩
  rw [← hxs] at hro8 HXF HXS HXU HXC hcs
  have hxn : xs.length ≤ 361 := by omega
  have HXE := Lib.hid hxs
  obtain ⟨ax, cx, rfl, hx63, hxc⟩ := id hro8
  have HXR := Lib.hid hxc
  have HRO := Lib.hid hro8
  clear hro8 hl8 hb8 hlim hle hcs hxs hxc HGO HP7 HB7 HE7
  go_wp2_with fail
  go_loopw [29, 10] (fun vi vb wr => ∃ (k : Nat) (R : List (Value × Ent)), vi = .int .i64 k ∧ k ≤ xs.length ∧ R.map Prod.snd = (xs.take k).flatten ∧ Rk 3 (fun b => w8.heap.size ≤ b) wr vb R.length (flatR R) ∧ RawL (fun b => b < w8.heap.size) wr R ∧ Below w8.heap.size w8 wr) (fun vi _ _ => xs.length - (intOf vi).toNat)
  case atStart => exact ⟨0, [], rfl, Nat.zero_le _, rfl, Rk.nil 3 _ _, fun x hx => by simp at hx, Below.refl _ _⟩
  case round =>
    obtain ⟨k, R, rfl, hk, hRm, hrk, hrl, hbw⟩ := hrel
    obtain ⟨ao, co, rfl⟩ : ∃ a c, u10 = .slice a R.length c := by
      rcases hrk.sq with ⟨h1, h2⟩ | ⟨g, c, h1, _⟩
      · exact ⟨none, 0, by rw [h1, h2]⟩
      · exact ⟨_, c, h1⟩
    have HRK := Lib.hid hrk
    have HRL := Lib.hid hrl
    have HRM := Lib.hid hRm
    have HBW := Lib.hid hbw
    by_cases hlt : k < xs.length
    · rcases HXR.out with h0 | ⟨br, off, rfl, hbr, hcells⟩
      · exact absurd hlt (by rw [h0]; simp)
      obtain ⟨pv, hc, hes⟩ := hcells k hlt
      have hc' : wr.cell? ⟨br, off + k, none⟩ = some pv := (hbw.cell hbr).trans hc
      have hRl : R.length ≤ 360 := by
        have h1 : ((xs.take k).flatten ++ (xs.drop k).flatten).length = out.length := by rw [← List.flatten_append, List.take_append_drop, HXF.out]
        have h2 := congrArg List.length hRm
        rw [List.length_map] at h2
        rw [List.length_append] at h1
        omega
      have htk := take_flat_snoc xs k hlt
      have hpl := HXS.out k hlt
      have hpu := HXU.out k
      have hpp : 0 < k → k * lim < out.length := fun h0 => by
        have h := HXU.out (k - 1)
        rw [show k - 1 + 1 = k by omega] at h
        exact h hlt
      generalize xs[k] = p at hes htk hpl
      obtain ⟨ap, cp, rfl, hp63, _⟩ := id hes
      obtain ⟨Rp, hPm, hPl, hPs⟩ := ((hes.mono (H := fun b => b < w8.heap.size) (M := fun b => b < w8.heap.size) (fun b _ h => h) (fun b _ h => h)).below1 hbw).src_raw
      have hPn : Rp.length = p.length := by rw [← hPm, List.length_map]
      rw [hPn] at hPs
      have HSRC := Lib.hid hPs
      have HPM := Lib.hid hPm
      have HPN := Lib.hid hPn
      have HRP : Hid (RawL (fun b => b < w8.heap.size) wr Rp) := Lib.hid hPl
      have HTS := Lib.hid htk
      have hlq := HLE.out
      have HPW := Lib.hid (HP8.out.below hbw)
      have c0 := HPW.out.c.cell 0
      have c1 := HPW.out.c.cell 1
      have c2 := HPW.out.c.cell 2
      have c3 := HPW.out.c.cell 3
      have c4 := HPW.out.c.cell 4
      have c5 := HPW.out.c.cell 5
      have c6 := HPW.out.c.cell 6
      have c7 := HPW.out.c.cell 7
      have c8 := HPW.out.c.cell 8
      have c9 := HPW.out.c.cell 9
      simp only [List.getElem?_toArray, List.getElem?_cons_succ, List.getElem?_cons_zero] at c0 c1 c2 c3 c4 c5 c6 c7 c8 c9
      have hmul : (k + 1) * lim = k * lim + lim := by rw [Nat.add_mul, Nat.one_mul]
      have g1 : ¬ q.lim < (p.length : Int) := by omega
      have hp4 : p.length ≤ 360 := by omega
      clear hrk hrl hRm hbw hc hes hcells hPs hPm hPl htk
      by_cases hk1 : k + 1 < xs.length
      · have hf := hpu hk1
        have g2 : ((p.length : Int) != q.lim) = false := by rw [hlq, hpl]; simp; omega
        have g3 : (k : Int) + 1 < (xs.length : Int) := by omega
        have g4 : ¬ p.length = 0 := by omega
        have G := Lib.hid (And.intro hpl hmul)
        clear hpl hmul hpu hpp hf hlq
        by_cases hk0 : 0 < k
        · have g5 : (0 : Int) < (k : Int) := by omega
          
          go_wp2_with (at_builtin; refine wpList_append_rk E24 _ rfl _ _ 33 rfl (G := fun b => w8.heap.size ≤ b) rfl HRK.out ?c1 (.slice ap p.length cp) p.length (flatR Rp) rfl HSRC.out ?c3 ?c4 ?_)
          case c1 => exact fun b hb => Nat.le_trans HBW.out.size hb
          case c3 => omega
          case c4 => omega
          intro v' w9 hrk9 hk9
          have hb9 : Below w8.heap.size w8 w9 := keep_below HRK.out (fun b hb => hb) HBW.out hk9
          have HRK9 : Hid (Rk 3 (fun b => w8.heap.size ≤ b) w9 v' (R ++ Rp).length (flatR (R ++ Rp))) := Lib.hid (by
            have := hrk9.mono (G' := fun b => w8.heap.size ≤ b) fun b hb _ => hb.1
            rw [flatR_append, List.length_append, HPN.out]
            exact this)
          have HRAW : Hid (RawL (fun b => b < w8.heap.size) w9 (R ++ Rp)) := Lib.hid fun z hz => by
            rcases List.mem_append.1 hz with hz | hz
            · exact (HRL.out z hz).both HBW.out hb9 hk9.size
            · exact (HRP.out z hz).both HBW.out hb9 hk9.size
          have HB9 := Lib.hid hb9
          clear hrk9 hk9 hb9
          go_wp2
          go_roundw
          case rel =>
            exact ⟨k + 1, R ++ Rp, by go_num, by omega, by rw [List.map_append, HRM.out, HPM.out, HTS.out], HRK9.out, HRAW.out, HB9.out⟩
          case measure => simp [intOf]; omega
        · have g5 : ¬ (0 : Int) < (k : Int) := by omega
          
          go_wp2_with (at_builtin; refine wpList_append_rk E24 _ rfl _ _ 33 rfl (G := fun b => w8.heap.size ≤ b) rfl HRK.out ?c1 (.slice ap p.length cp) p.length (flatR Rp) rfl HSRC.out ?c3 ?c4 ?_)
          case c1 => exact fun b hb => Nat.le_trans HBW.out.size hb
          case c3 => omega
          case c4 => omega
          intro v' w9 hrk9 hk9
          have hb9 : Below w8.heap.size w8 w9 := keep_below HRK.out (fun b hb => hb) HBW.out hk9
          have HRK9 : Hid (Rk 3 (fun b => w8.heap.size ≤ b) w9 v' (R ++ Rp).length (flatR (R ++ Rp))) := Lib.hid (by
            have := hrk9.mono (G' := fun b => w8.heap.size ≤ b) fun b hb _ => hb.1
            rw [flatR_append, List.length_append, HPN.out]
            exact this)
          have HRAW : Hid (RawL (fun b => b < w8.heap.size) w9 (R ++ Rp)) := Lib.hid fun z hz => by
            rcases List.mem_append.1 hz with hz | hz
            · exact (HRL.out z hz).both HBW.out hb9 hk9.size
            · exact (HRP.out z hz).both HBW.out hb9 hk9.size
          have HB9 := Lib.hid hb9
          clear hrk9 hk9 hb9
          go_wp2
          go_roundw
          case rel =>
            exact ⟨k + 1, R ++ Rp, by go_num, by omega, by rw [List.map_append, HRM.out, HPM.out, HTS.out], HRK9.out, HRAW.out, HB9.out⟩
          case measure => simp [intOf]; omega
      · have g3 : ¬ (k : Int) + 1 < (xs.length : Int) := by omega
        by_cases hk0 : 0 < k
        · have hf := hpp hk0
          have g4 : ¬ p.length = 0 := by omega
          have g5 : (0 : Int) < (k : Int) := by omega
          have G := Lib.hid (And.intro hpl hmul)
          clear hpl hmul hpu hpp hf hlq
          
          go_wp2_with (at_builtin; refine wpList_append_rk E24 _ rfl _ _ 33 rfl (G := fun b => w8.heap.size ≤ b) rfl HRK.out ?c1 (.slice ap p.length cp) p.length (flatR Rp) rfl HSRC.out ?c3 ?c4 ?_)
          case c1 => exact fun b hb => Nat.le_trans HBW.out.size hb
          case c3 => omega
          case c4 => omega
          intro v' w9 hrk9 hk9
          have hb9 : Below w8.heap.size w8 w9 := keep_below HRK.out (fun b hb => hb) HBW.out hk9
          have HRK9 : Hid (Rk 3 (fun b => w8.heap.size ≤ b) w9 v' (R ++ Rp).length (flatR (R ++ Rp))) := Lib.hid (by
            have := hrk9.mono (G' := fun b => w8.heap.size ≤ b) fun b hb _ => hb.1
            rw [flatR_append, List.length_append, HPN.out]
            exact this)
          have HRAW : Hid (RawL (fun b => b < w8.heap.size) w9 (R ++ Rp)) := Lib.hid fun z hz => by
            rcases List.mem_append.1 hz with hz | hz
            · exact (HRL.out z hz).both HBW.out hb9 hk9.size
            · exact (HRP.out z hz).both HBW.out hb9 hk9.size
          have HB9 := Lib.hid hb9
          clear hrk9 hk9 hb9
          go_wp2
          go_roundw
          case rel =>
            exact ⟨k + 1, R ++ Rp, by go_num, by omega, by rw [List.map_append, HRM.out, HPM.out, HTS.out], HRK9.out, HRAW.out, HB9.out⟩
          case measure => simp [intOf]; omega
        · have g5 : ¬ (0 : Int) < (k : Int) := by omega
          have G := Lib.hid (And.intro hpl hmul)
          clear hpl hmul hpu hpp hlq
          
          go_wp2_with (at_builtin; refine wpList_append_rk E24 _ rfl _ _ 33 rfl (G := fun b => w8.heap.size ≤ b) rfl HRK.out ?c1 (.slice ap p.length cp) p.length (flatR Rp) rfl HSRC.out ?c3 ?c4 ?_)
          case c1 => exact fun b hb => Nat.le_trans HBW.out.size hb
          case c3 => omega
          case c4 => omega
          intro v' w9 hrk9 hk9
          have hb9 : Below w8.heap.size w8 w9 := keep_below HRK.out (fun b hb => hb) HBW.out hk9
          have HRK9 : Hid (Rk 3 (fun b => w8.heap.size ≤ b) w9 v' (R ++ Rp).length (flatR (R ++ Rp))) := Lib.hid (by
            have := hrk9.mono (G' := fun b => w8.heap.size ≤ b) fun b hb _ => hb.1
            rw [flatR_append, List.length_append, HPN.out]
            exact this)
          have HRAW : Hid (RawL (fun b => b < w8.heap.size) w9 (R ++ Rp)) := Lib.hid fun z hz => by
            rcases List.mem_append.1 hz with hz | hz
            · exact (HRL.out z hz).both HBW.out hb9 hk9.size
            · exact (HRP.out z hz).both HBW.out hb9 hk9.size
          have HB9 := Lib.hid hb9
          clear hrk9 hk9 hb9
          go_wp2
          go_roundw
          case rel =>
            exact ⟨k + 1, R ++ Rp, by go_num, by omega, by rw [List.map_append, HRM.out, HPM.out, HTS.out], HRK9.out, HRAW.out, HB9.out⟩
          case measure => simp [intOf]; omega
    · obtain rfl : k = xs.length := by omega
      have hro : R.map Prod.snd = out := by rw [hRm, List.take_of_length_le (Nat.le_refl _), HXF.out]
      have hER := (hrk.ents hrl).any
      rw [hro] at hER
      have HAA := Lib.hid (all_any hER (HE8.out.below1 hbw))
      have HPW := Lib.hid (HP8.out.below hbw)
      have HBX := Lib.hid (below_mid HB8.out hbw)
      clear hrk hrl hRm hbw hro hER HRK HRL HRM HBW HXR HRO HXF HXS HXU
      go_wp2_with fail
      refine HAA.out.mono ?_
      rintro e w9 ⟨rfl, hl9⟩
      have hb9 := lay_below hl9
      have HP9 := Lib.hid (HPW.out.below hb9)
      have HB9 := Lib.hid (below_mid HBX.out hb9)
      clear hl9 hb9 HAA HPW HBX
      have c0 := HP9.out.c.cell 0
      have c1 := HP9.out.c.cell 1
      have c2 := HP9.out.c.cell 2
      have c3 := HP9.out.c.cell 3
      have c4 := HP9.out.c.cell 4
      have c5 := HP9.out.c.cell 5
      have c6 := HP9.out.c.cell 6
      have c7 := HP9.out.c.cell 7
      have c8 := HP9.out.c.cell 8
      have c9 := HP9.out.c.cell 9
      simp only [List.getElem?_toArray, List.getElem?_cons_succ, List.getElem?_cons_zero] at c0 c1 c2 c3 c4 c5 c6 c7 c8 c9
      have HPG := Lib.hid (pages_any q _ rows _ w9 HP9.out.qat HQF.out HP9.out.r HF.out (Nat.le_trans HFL.out (by decide)) HP9.out.s)
      simp only [Qy.val] at HPG
      have hq0 : ¬ q.lim = 0 := by have := HL1.out; omega
      have hq1 := HL1.out
      have hq8 := HL8.out
      obtain ⟨t, ht⟩ : ∃ t, t = (out.length + lim - 1) / lim := ⟨_, rfl⟩
      have htd : ((out.length : Int) + q.lim - 1).tdiv q.lim = (t : Int) := by
        rw [ht, HLE.out, show ((out.length : Int) + (lim : Int) - 1) = ((out.length + lim - 1 : Nat) : Int) by omega]
        rfl
      have htb : t ≤ 400 := by
        rw [ht]
        exact Nat.le_trans (Nat.div_le_self _ _) (by have := HLE.out; omega)
      have hmx1 : ((xs.length : Int) == max (t : Int) 1) = true := by
        have h := HXC.out
        rw [← ht] at h
        rw [h]
        simp
        omega
      clear ht
      go_wp2_with fail
      refine HPG.out.mono ?_
      rintro e w10 ⟨BL', BR', v10, out10, rfl, _, _, hbl, hbr, hent, hsq, hso, hb10⟩
      obtain rfl := (Sorts.unique (ordC_lc q.desc) hso HSO.out (fun _ => Iff.rfl)).symm
      have HGO := Lib.hid (pgone_any q hbl hbr hent hsq HL1.out HL8.out HOL.out n)
      have HBA := Lib.hid (below_mid HB9.out hb10)
      clear hbl hbr hent hsq hso hb10 HPG HB9 HP9 c0 c1 c2 c3 c4 c5 c6 c7 c8 c9 htd htb hmx1 hq0 hq1 hq8
      go_wp2_with fail
      refine HGO.out.mono ?_
      rintro e w11 ⟨v11, rfl, hro11, hl11⟩
      rw [← HLI.out, ← HXE.out] at hro11
      have HBB := Lib.hid (below_mid HBA.out (lay_below hl11))
      obtain ⟨a11, c11, rfl, _, _⟩ := id hro11
      have hlen : (xs.take n.toNat).length = min n.toNat xs.length := List.length_take
      have hmn : (((xs.take n.toNat).length : Int) == min (max n 0) (xs.length : Int)) = true := by
        rw [hlen]
        simp
        omega
      generalize (xs.take n.toNat).length = mm at hmn ⊢
      clear hlen hro11 hl11 HGO HBA
      go_wp2_with fail
      go_ret
      exact ⟨rfl, HBB.out⟩

end Go.Proofs.YtidjodplimkmgaaGreatDoor.E4
