/-
  StreamFills: ENTRIES OF ONE STREAM, MORE THAN A CHUNK HAS, OF ANY TIMES.
-/
import Derived.Test.YtgfjbboeappemaaGreatDoorFk14
import Derived.Test.YtgfjbboeappemaaGreatDoorEr
import Derived.Test.YtgfjbboeappemaaGreatDoorOi14
namespace Go.Proofs.YtgfjbboeappemaaGreatDoor.E4
open Go.RowKit Go
open Go.Sort (grow)

/-- The entry of a number. -/
def eF (n : Int) : Ent := ⟨n.tmod 1099511627776, [], ⟨#[120]⟩⟩
def rowF (n : Int) : Value × Ent := (.slice none 0 0, eF n)
theorem eF_tm (n : Int) : -1099511627776 < n.tmod 1099511627776 ∧ n.tmod 1099511627776 < 1099511627776 := by
  constructor
  · exact Int.lt_tmod_of_pos n (by decide)
  · exact Int.tmod_lt_of_pos n (by decide)
theorem eF_big (n : Int) : (eF n).big = false := rfl
theorem eF_wf (n : Int) : -9223372036854775808 ≤ (eF n).tm ∧ (eF n).tm ≤ 9223372036854775807 := by
  have := eF_tm n
  unfold eF
  simp only
  omega
theorem fine_f {l : List Int} (h : l.length ≤ 200) : Fine13 (l.map eF) := by
  have h1 : ∀ x ∈ l.map eF, x.Mod ∧ x.line.size ≤ 1000 := fun x hx => by
    obtain ⟨n, _, rfl⟩ := List.mem_map.1 hx
    have := mod_of (eF_wf n) (eF_big n)
    exact ⟨this.1, this.2.2.1⟩
  exact ⟨fun x hx => (h1 x hx).1, fun x hx => (h1 x hx).2, by rw [List.length_map]; omega⟩
def aF (src til : Int) : Ask := ⟨2, src, til, [], []⟩
theorem aF_great (src til : Int) : (aF src til).great = false := rfl
theorem aF_good {src til : Int} (h : (-1099511627776 ≤ src ∧ src ≤ 1099511627776) ∧ (-1099511627776 ≤ til ∧ til ≤ 1099511627776)) : (aF src til).good isTx = true := by
  rw [good_2 (a := aF src til) ⟨⟨by show (1 : Int) ≤ 2; omega, by show (2 : Int) ≤ 3; omega⟩, h.1, h.2⟩ rfl]
  rfl
theorem aF_dyn (src til : Int) (mv : Value) : (aF src til).dyn (.slice none 0 0) mv = .iface 51 (.agg #[.int .i64 src, .int .i64 til, mv]) := by unfold Ask.dyn; rw [if_neg (show ¬ (aF src til).kd = 1 by show ¬ (2 : Int) = 1; decide), if_pos (show (aF src til).kd = 2 from rfl)]; rfl
theorem rows_raw (L : Nat → Prop) (w : World) (l : List Int) : RawL L w (l.map rowF) := fun x hx => by
  obtain ⟨n, _, rfl⟩ := List.mem_map.1 hx
  exact LabsAt.nil _ _
theorem rows_snd (l : List Int) : (l.map rowF).map Prod.snd = l.map eF := by rw [List.map_map]; rfl

theorem AskQ.of {es : List Ent} {a : Ask} {mo : Option Ent} {desc : Bool} {n : Int} {w : World} {x : Ending} {w' : World} (h : AskP es a mo desc n w x w') : AskQ es a mo desc n w x w' := h.q.1

set_option maxHeartbeats 8000000 in
set_option maxRecDepth 100000 in
theorem fills_walk14 {w : World} {v : Value} {l : List Int} {src til : Int} (h : IntsAt w v l) (hT : Lib.Utf8Tabs 1 2 w) :
    Calls Tryz.prog 6 #[v, .int .i64 src, .int .i64 til] w fun x w' => x = .returned (.bool true) ∧ Below w.heap.size w w' := by
  have hmx : Tryz.prog.follows .mixedOrders = true := by kernel_rfl
  obtain ⟨i24, z24, E24⟩ := elem24
  obtain ⟨ia, ic, rfl, h63, hc⟩ := id h
  have HC := Lib.hid hc
  have HAL := Lib.hid (alive_any w hT)
  have HT := Lib.hid hT
  clear h hT hc
  go_enter Tryz.func6, Tryz.ntmps6
  go_upto_region 3 with (go_at_call 8; refine HAL.out.mono ?_; rintro x w2 ⟨rfl, hb2⟩)
  have HB2 := Lib.hid hb2
  clear hb2 HAL
  by_cases h1 : (200 : Int) < (l.length : Int)
  · go_wp2_with fail
    go_ret
    exact ⟨rfl, HB2.out⟩
  by_cases h2 : 1099511627776 < src
  · go_wp2_with fail
    go_ret
    exact ⟨rfl, HB2.out⟩
  by_cases h3 : src < -1099511627776
  · go_wp2_with fail
    go_ret
    exact ⟨rfl, HB2.out⟩
  by_cases h4 : 1099511627776 < til
  · go_wp2_with fail
    go_ret
    exact ⟨rfl, HB2.out⟩
  by_cases h5 : til < -1099511627776
  · go_wp2_with fail
    go_ret
    exact ⟨rfl, HB2.out⟩
  have HIN : Hid ((-1099511627776 ≤ src ∧ src ≤ 1099511627776) ∧ (-1099511627776 ≤ til ∧ til ≤ 1099511627776)) := Lib.hid ⟨⟨by omega, by omega⟩, by omega, by omega⟩
  have HLN : Hid (l.length ≤ 200) := Lib.hid (by omega)
  have hln := HLN.out
  go_upto_region 6 with fail
  clear h1 h2 h3 h4 h5
  go_wp2_with fail
  go_loopw [40, 7] (fun vi vb wr => ∃ i : Nat, vi = .int .i64 i ∧ i ≤ l.length ∧ Rk 3 (fun b => w2.heap.size ≤ b) wr vb i (flatR ((l.take i).map rowF)) ∧ Below w2.heap.size w2 wr) (fun vi _ _ => l.length - (intOf vi).toNat)
  case atStart => exact ⟨0, rfl, Nat.zero_le _, Rk.nil 3 _ _, Below.refl _ _⟩
  case round =>
    obtain ⟨i, rfl, hi, hsk, hb⟩ := hrel
    have HSK := Lib.hid hsk
    have HB := Lib.hid hb
    clear hsk
    by_cases hlt : i < l.length
    · rcases HC.out with h0 | ⟨g, og, rfl, hgl, hce⟩
      · exact absurd hlt (by rw [h0]; simp)
      have x0 := hce i hlt
      have y0 : wr.cell? ⟨g, og + i, none⟩ = _ := ((HB2.out.cell hgl).trans x0 |> fun h => (hb.cell (Nat.lt_of_lt_of_le hgl HB2.out.size)).trans h)
      have htk : (l.take (i + 1)).map rowF = (l.take i).map rowF ++ [rowF l[i]] := by rw [← List.take_append_getElem hlt, List.map_append]; rfl
      have HTK := Lib.hid htk
      generalize l[i] = n at y0 HTK
      clear x0 hce hb htk
      have HSRC := Lib.hid (src_entB (e := eF n) (w := wr) (lv := .slice none 0 0) rfl)
      simp only [eF] at HSRC
      go_wp2_with (at_builtin; refine wpList_append_rk E24 _ rfl _ _ 22 rfl (G := fun b => w2.heap.size ≤ b) rfl (HSK.out.alloc _) ?c1 (.slice (some ⟨wr.heap.size, 0, none⟩) 1 1) 1 (flatR [((.slice none 0 0 : Value), eF n)]) rfl HSRC.out ?c3 ?c4 ?_)
      case c1 => intro k hk; have := HB.out.size; simp at hk; omega
      case c3 => omega
      case c4 => omega
      intro v' w9 hrk9 hk9
      have hal : Below w2.heap.size w2 (wr.alloc (.cells #[.int .i64 (n.tmod 1099511627776), .slice none 0 0, .string ⟨#[120]⟩] 29)) := HB.out.trans ((Below.refl _ wr).alloc (Nat.le_refl _) _ |>.mono HB.out.size)
      have hb9 : Below w2.heap.size w2 w9 := keep_below (HSK.out.alloc _) (fun b hb => hb) hal hk9
      have HRK9 : Hid (Rk 3 (fun b => w2.heap.size ≤ b) w9 v' (i + 1) (flatR ((l.take (i + 1)).map rowF))) := Lib.hid (by
        have h1 := hrk9.mono (G' := fun b => w2.heap.size ≤ b) fun b hb _ => hb.1
        rw [HTK.out, flatR_append, List.map_take]
        exact h1)
      have HB9 := Lib.hid hb9
      clear hrk9 hk9 hal hb9 HSRC
      go_wp2
      go_roundw
      case rel => exact ⟨i + 1, by go_num, by omega, HRK9.out, HB9.out⟩
      case measure => simp [intOf]; omega
    · obtain rfl : i = l.length := by omega
      have hents : EntsAt (fun b => w2.heap.size ≤ b) (fun _ => True) wr u7 (l.map eF) := by
        have h1 := HSK.out
        rw [List.take_of_length_le (Nat.le_refl _)] at h1
        have h2 : Rk 3 (fun b => w2.heap.size ≤ b) wr u7 (l.map rowF).length (flatR (l.map rowF)) := by rw [List.length_map]; exact h1
        have h3 := h2.ents (rows_raw (fun _ => True) wr l)
        rwa [rows_snd] at h3
      have HFI := Lib.hid (filled_any hents (fine_f HLN.out))
      have HENT := Lib.hid hents
      have HBR := Lib.hid (below_mid HB2.out hb)
      have HTR := Lib.hid (Utf8Tabs_below HT.out HBR.out)
      obtain ⟨es, hes⟩ : ∃ es, es = l.map eF := ⟨_, rfl⟩
      have HES := Lib.hid hes
      rw [← hes] at HFI HENT
      have hesl : es.length ≤ 200 := by rw [hes, List.length_map]; exact HLN.out
      have hA : (aF src til).kd = 2 ∧ (aF src til).good isTx = true := ⟨rfl, aF_good HIN.out⟩
      have HA := Lib.hid hA
      have HLAB : Hid (∀ x ∈ addAll [] es, x.labs.length ≤ 1000000) := Lib.hid fun x hx => by
        have h1 := (List.mem_filter.1 ((added_mem es x).1 hx)).1
        rw [HES.out] at h1
        obtain ⟨n, _, rfl⟩ := List.mem_map.1 h1
        exact Nat.zero_le _
      have HLINE : Hid (∀ e ∈ es, e.line.size ≤ 1048576) := Lib.hid fun x hx => by
        rw [HES.out] at hx
        obtain ⟨n, _, rfl⟩ := List.mem_map.1 hx
        show (1 : Nat) ≤ 1048576
        omega
      have HADL : Hid ((addAll [] es).length ≤ 1000) := Lib.hid (by have h3 := addAll_len (es := []) (l := es); simp only [List.length_nil] at h3; omega)
      clear hents hb hes hA
      go_wp2_with fail
      refine HFI.out.mono ?_
      rintro x w4 ⟨gb, rfl, heng, hb4⟩
      have HB4 := Lib.hid (below_mid HBR.out hb4)
      have HENT4 := Lib.hid (HENT.out.below1 hb4)
      have HASK := Lib.hid (ask_any (addAll [] es) (aF src til) (.slice none 0 0) (.slice none 0 0) false false ⟨0, [], ⟨#[]⟩⟩ (.slice none 0 0) 1000 wr.heap.size gb w4 heng (show TextsAt w4 (.slice none 0 0) [] from ⟨none, 0, rfl, by decide, .inl rfl⟩) (show MsAt w4 (.slice none 0 0) [] from ⟨none, 0, rfl, by decide, .inl rfl⟩) (LabsAt.nil _ _) HADL.out (aF_great src til) HLAB.out (Utf8Tabs_below HTR.out hb4))
      rw [aF_dyn] at HASK
      simp only [mkV] at HASK
      clear heng hb4 HFI
      go_wp2_with fail
      refine HASK.out.mono ?_
      rintro x w5 hx
      obtain ⟨⟨v5, rfl, hent5, hb5⟩, hs5⟩ := hx.q
      have hs5 := hs5 HA.out
      have hB : askB (addAll [] es) (aF src til) (mkO false ⟨0, [], ⟨#[]⟩⟩) false 1000 = true := by
        rw [show mkO false ⟨0, [], ⟨#[]⟩⟩ = none from rfl, askB_eq HA.out, Md.rest_none]
        refine decide_eq_true ?_
        have := askS_len hs5
        show _ ≤ 1000
        omega
      rw [hB, askK_ok HA.out]
      obtain ⟨la, lc, rfl, _⟩ := id hent5
      have HEN5 := Lib.hid hent5
      have HB5 := Lib.hid (below_mid HB4.out hb5)
      have HRF := Lib.hid (refAsk_any es (aF src til) u7 (.agg ((aF src til).cells (.slice none 0 0) (.slice none 0 0))) false false ⟨0, [], ⟨#[]⟩⟩ (.slice none 0 0) 1000 w5 (HENT4.out.below1 hb5) ⟨_, _, rfl, (show TextsAt w5 (.slice none 0 0) [] from ⟨none, 0, rfl, by decide, .inl rfl⟩), (show MsAt w5 (.slice none 0 0) [] from ⟨none, 0, rfl, by decide, .inl rfl⟩)⟩ (LabsAt.nil _ _) (by omega) HLINE.out (Utf8Tabs_below HT.out HB5.out))
      simp only [mkV, Ask.cells, aF] at HRF
      have HS5 := Lib.hid hs5
      clear hb5 hent5 hx hs5 hB HASK
      go_wp2_with fail
      refine HRF.out.mono ?_
      rintro x w6 hx
      obtain ⟨v6, rfl, hent6, hb6⟩ := AskQ.of (a := aF src til) hx
      rw [← askL_same (added_mem es)] at hent6
      rw [← askB_same (added_mem es)]
      have HALL := Lib.hid (all_any (HEN5.out.below1 hb6) hent6)
      have HB6 := Lib.hid (below_mid HB5.out hb6)
      obtain ⟨ra, rc, rfl, _⟩ := id hent6
      clear hent6 hb6 hx HRF
      go_wp2_with (go_at_call 14; refine HALL.out.mono ?_; rintro x w7 ⟨rfl, hl7⟩)
      go_ret
      exact ⟨rfl, below_mid HB6.out (lay_below hl7)⟩

end Go.Proofs.YtgfjbboeappemaaGreatDoor.E4
