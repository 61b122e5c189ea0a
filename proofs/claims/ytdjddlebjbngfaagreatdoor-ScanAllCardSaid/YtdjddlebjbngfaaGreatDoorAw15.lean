/-
  ASKED FOR ALL TIMES AN ENGINE ANSWERS ALL IT HAS, in order; the other way round, the other way round: the law's walk.
-/
import Derived.Test.YtdjddlebjbngfaaGreatDoorFk15
import Derived.Test.YtdjddlebjbngfaaGreatDoorEr
namespace Go.Proofs.YtdjddlebjbngfaaGreatDoor.E4
open Go.RowKit Go
open Go.Sort (grow)

def aB : Ask := ⟨3, -1099511627776, 1099511627776, [], []⟩
theorem aB_g : aB.gd = true := by kernel_rfl
theorem aB_d : aB.dyn (.slice none 0 0) (.slice none 0 0) = .iface 51 (.agg #[.int .i64 (-1099511627776), .int .i64 1099511627776]) := dyn3 rfl _ _
theorem all_asked {es : List Ent} (h : ∀ x ∈ es, x.ok = true) : es.filter (inT aB.src aB.til) = es := List.filter_eq_self.2 fun x hx => by
  have := ok_time (h x hx)
  exact inT_yes (by show ¬ x.tm < -1099511627776; omega) (by show ¬ 1099511627776 < x.tm; omega)
theorem cut_all (c : Ent → Ent → Int) {l : List Ent} (h : l.length ≤ 1000) : Md.cut c none (1000 : Int).toNat l = (l, true) := by
  unfold Md.cut
  rw [Md.rest_none]
  have e : (1000 : Int).toNat = 1000 := rfl
  rw [e, List.take_of_length_le h, decide_eq_true h]

set_option maxHeartbeats 4000000 in
set_option maxRecDepth 100000 in
theorem all_walk15 {G L : Nat → Prop} {w : World} {v : Value} {es : List Ent} (h : EntsAt G L w v es) (hT : MaxI w) :
    Calls Tryz.prog 6 #[v] w fun x w' => x = .returned (.bool true) ∧ Below w.heap.size w w' := by
  have hmx : Tryz.prog.follows .mixedOrders = true := by kernel_rfl
  obtain ⟨ae, ce, rfl, he63, _⟩ := id h
  have HAL := Lib.hid (alive_any w hT)
  have HH := Lib.hid h
  have HT := Lib.hid hT
  clear h hT
  go_enter Tryz.func6, Tryz.ntmps6
  go_wp2_with fail
  refine HAL.out.mono ?_
  rintro x w1 ⟨rfl, hb1⟩
  have HB1 := Lib.hid hb1
  have HMN := Lib.hid (many_any (HH.out.below1 hb1) 60 (by decide))
  clear hb1 HAL
  cases hbig : (decide (60 < es.length) || es.any Ent.big) with
  | true =>
    rw [hbig] at HMN
    go_wp2_with (go_at_call 18; refine HMN.out.mono ?_; rintro x w2 ⟨rfl, hl2⟩)
    go_ret
    exact ⟨rfl, below_mid HB1.out (lay_below hl2)⟩
  | false =>
    rw [hbig] at HMN
    have hn : es.length ≤ 60 := by
      simp only [Bool.or_eq_false_iff, decide_eq_false_iff_not] at hbig
      omega
    have HN := Lib.hid hn
    clear hbig hn
    go_wp2_with fail
    refine HMN.out.mono ?_
    rintro x w2 ⟨rfl, hl2⟩
    have HB2 := Lib.hid (below_mid HB1.out (lay_below hl2))
    have HFI := Lib.hid (filled_any (HH.out.below1 HB2.out) (by have := HN.out; omega) (HT.out.below1 HB2.out))
    clear hl2 HMN HB1
    go_wp2_with fail
    refine HFI.out.mono ?_
    rintro x w5 ⟨gb, rfl, heng, hb5⟩
    have HB5 := Lib.hid (below_mid HB2.out hb5)
    obtain ⟨fs, hfs⟩ : ∃ fs, fs = addAll [] es := ⟨_, rfl⟩
    have HFN : Hid (fs.length ≤ 60) := Lib.hid (by have h1 := addAll_len (es := []) (l := es); have := HN.out; rw [hfs]; simp only [List.length_nil] at h1; omega)
    rw [← hfs] at heng
    have HE := Lib.hid heng
    obtain ⟨S, hS⟩ : ∃ S : Bool → List Ent, S = fun d => srtOf d fs := ⟨_, rfl⟩
    have HASK : Hid (∀ (d : Bool) (W : World), Below w5.heap.size w5 W → Calls Tryz.prog 10 #[.pointer (some ⟨gb, 0, none⟩), .iface 51 (.agg #[.int .i64 (-1099511627776), .int .i64 1099511627776]), .agg #[.bool false, .int .i64 0, .slice none 0 0, .string ⟨#[]⟩], .bool d, .int .i64 1000] W fun x w' => ∃ u, x = .returned (.tuple #[u, .bool true, .int .i64 0]) ∧ EntsAt (fun _ => True) (fun _ => True) w' u (S d) ∧ Sorts (ordC d) fs (S d) ∧ Below W.heap.size W w') := Lib.hid fun d W hW => by
      have hc := ask2_any fs aB (.slice none 0 0) (.slice none 0 0) false d ⟨0, [], ⟨#[]⟩⟩ (.slice none 0 0) 1000 w2.heap.size gb W (HE.out.below hW) ⟨_, _, _, rfl⟩ ⟨_, _, _, rfl⟩ (LabsAt.nil _ _) (by have := HFN.out; omega) rfl aB_g
      rw [aB_d] at hc
      simp only [mkV] at hc
      refine hc.mono fun x w' h => ?_
      obtain ⟨hb, u, srt, hs, rfl, hu⟩ := h
      rw [all_asked HE.out.ok] at hs
      have hl : srt.length ≤ 1000 := by have := Sorts.len13 hs; have := HFN.out; omega
      have e : S d = srt := by rw [hS]; exact srtOf_eq hs
      rw [show mkO false (⟨0, [], ⟨#[]⟩⟩ : Ent) = none from rfl, cut_all _ hl] at hu ⊢
      exact ⟨u, rfl, by rw [e]; exact hu.any, by rw [e]; exact hs, hb⟩
    obtain ⟨w6, hw6⟩ : ∃ w6, w6 = w5.alloc (.cells #[.int .i64 (-1099511627776), .int .i64 1099511627776] 51) := ⟨_, rfl⟩
    have hb6 : Below w5.heap.size w5 w6 := by rw [hw6]; exact (Below.refl _ w5).alloc (Nat.le_refl _) _
    have hk6 : Bl w6 w5.heap.size 51 #[.int .i64 (-1099511627776), .int .i64 1099511627776] := by rw [hw6]; exact Bl.new w5 51 _
    have HW6 := Lib.hid hw6.symm
    have HB56 := Lib.hid hb6
    have HK6 := Lib.hid hk6
    have x0 := hk6.cell 0
    have x1 := hk6.cell 1
    simp only [List.getElem?_toArray, List.getElem?_cons_succ, List.getElem?_cons_zero] at x0 x1
    clear heng hb5 hfs hS hw6 hb6 hk6 HFI
    go_upto_region 7 with fail
    rw [HW6.out]
    go_wp2_with fail
    refine (HASK.out false _ HB56.out).mono ?_
    rintro x w7 ⟨u1, rfl, hu1, hs1, hb7⟩
    obtain ⟨a1, c1, rfl, _⟩ := id hu1
    have HU1 := Lib.hid hu1
    have HS1 := Lib.hid hs1
    have HB67 := Lib.hid hb7
    have HB57 := Lib.hid (below_mid HB56.out hb7)
    have hk7 := HK6.out.below hb7
    have x0 := hk7.cell 0
    have x1 := hk7.cell 1
    simp only [List.getElem?_toArray, List.getElem?_cons_succ, List.getElem?_cons_zero] at x0 x1
    clear hu1 hs1 hb7 hk7
    go_wp2_with fail
    refine (HASK.out true _ HB57.out).mono ?_
    rintro x w8 ⟨u2, rfl, hu2, hs2, hb8⟩
    obtain ⟨a2, c2, rfl, _⟩ := id hu2
    have HU2 := Lib.hid hu2
    have HS2 := Lib.hid hs2
    have HB78 := Lib.hid hb8
    have HB58 := Lib.hid (below_mid HB57.out hb8)
    have HU18 := Lib.hid (HU1.out.below1 hb8)
    have hlen : (S false).length = fs.length := nodup_len HS1.out.nodup HE.out.nd fun x => HS1.out.2 x
    have HLN := Lib.hid (len_any w8 w2.heap.size gb fs (HE.out.below HB58.out))
    rw [← hlen] at HLN
    have hq : (((S false).length : Int) == ((S false).length : Int)) = true := beq_self_eq_true _
    have HSL : Hid ((S false).length ≤ 1000) := Lib.hid (by have := HFN.out; omega)
    clear hu2 hs2 hb8 hlen x0 x1
    go_wp2_with (go_at_call 14; refine HLN.out.mono ?_; rintro x w9 ⟨rfl, hx3⟩; have hx4 := Eq.symm hx3; clear hx3; subst hx4)
    have HST := Lib.hid (refSort_any true HU18.out HSL.out)
    refine HST.out.mono ?_
    rintro x w10 ⟨v', R', rfl, hrk, hrl, hso, hl10⟩
    obtain ⟨a3, c3, hsh⟩ := hrk.shape
    have he3 : R'.map Prod.snd = S true := Sorts.unique (ordC_lc true) hso HS2.out fun x => HS1.out.2 x
    have hent3 := hrk.ents hrl
    rw [he3] at hent3
    have hl3 : R'.length = (S true).length := by rw [← he3, List.length_map]
    rw [hl3] at hsh
    have HA1 := Lib.hid (all_any hent3 (HU2.out.below1 (lay_below hl10)))
    have HU110 := Lib.hid (HU18.out.below1 (lay_below hl10))
    have HB10 := Lib.hid (below_mid HB58.out (lay_below hl10))
    clear hrk hrl hso hl10 he3 hent3 hl3 HST
    subst hsh
    go_wp2_with fail
    refine HA1.out.mono ?_
    rintro x w11 ⟨rfl, hl11⟩
    have HU111 := Lib.hid (HU110.out.below1 (lay_below hl11))
    have HB11 := Lib.hid (below_mid HB10.out (lay_below hl11))
    have HST2 := Lib.hid (refSort_any false HU111.out HSL.out)
    clear hl11 HA1
    go_wp2_with fail
    refine HST2.out.mono ?_
    rintro x w12 ⟨v', R', rfl, hrk, hrl, hso, hl12⟩
    obtain ⟨a4, c4, hsh⟩ := hrk.shape
    have he4 : R'.map Prod.snd = S false := Sorts.unique (ordC_lc false) hso HS1.out fun x => HS1.out.2 x
    have hent4 := hrk.ents hrl
    rw [he4] at hent4
    have hl4 : R'.length = (S false).length := by rw [← he4, List.length_map]
    rw [hl4] at hsh
    have HA2 := Lib.hid (all_any hent4 (HU111.out.below1 (lay_below hl12)))
    have HB12 := Lib.hid (below_mid HB11.out (lay_below hl12))
    clear hrk hrl hso hl12 he4 hent4 hl4 HST2
    subst hsh
    go_wp2_with fail
    refine HA2.out.mono ?_
    rintro x w13 ⟨rfl, hl13⟩
    have HB13 := Lib.hid (below_mid HB5.out (below_mid HB12.out (lay_below hl13)))
    clear hl13 HA2
    go_wp2_with fail
    refine bodyPost_ret (v := .bool true) (by simp [results, Tryz.results6, go_sem]) rfl ⟨rfl, HB13.out⟩

end Go.Proofs.YtdjddlebjbngfaaGreatDoor.E4
