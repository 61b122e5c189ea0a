/-
  A QUERY'S TEXT IS THAT WITHOUT ITS PAGE, and the page behind it: the law's walk.
-/
import Derived.Test.YtmodiemmcdocdaaDoorSh8
namespace Go.Proofs.YtmodiemmcdocdaaDoor
open Go.RowKit Go

/-- A query with a page. -/
abbrev paged (q : Qy) (p : ByteArray) : Qy := { q with page := p }
theorem paged_plain (q : Qy) (p : ByteArray) : plainT (paged q p) = plainT q := rfl
theorem paged_wr {q : Qy} (h : Wr q) {p : ByteArray} (hp : p.size ≤ 100000) : Wr (paged q p) := ⟨h.can, h.sm, h.len, h.mats, h.mat, h.src0, h.src1, h.til0, h.til1, h.lim0, h.lim1, hp⟩
theorem paged_text {q : Qy} (hc : PX.Can q.fil) (hq : q.page = ⟨#[]⟩) (p : ByteArray) : PX.spell (PX.qsp Lib.itoa q) = plainT q ∧ PX.spell (PX.qsp Lib.itoa (paged q p)) = plainT q ++ (if p = ⟨#[]⟩ then [] else [32, 112, 97, 103, 101, 32] ++ LX.quote p.data.toList) := by
  refine ⟨by rw [qsp_spell hc, if_pos hq, List.append_nil], ?_⟩
  rw [qsp_spell (q := paged q p) hc]
  rfl

set_option maxHeartbeats 8000000 in
set_option maxRecDepth 100000 in
theorem pages_walk (l : List Int) (u : Value) (p : ByteArray) (w : World) (hu : IntsAt w u l) (hT : Tabs w) : Calls Tryd.prog 5 #[u, .string p] w fun e w' => e = .returned (.bool true) ∧ Below w.heap.size w w' := by
  have HA := Lib.hid (alive_show w hT)
  have HT := Lib.hid hT
  have HU := Lib.hid hu
  obtain ⟨a, cap, rfl, hl63, _⟩ := id hu
  clear hT hu
  by_cases hg : 300 < l.length ∨ 300 < p.size
  · have hg' : decide (300 < (l.length : Int)) = true ∨ (decide (300 < (l.length : Int)) = false ∧ decide (300 < (p.size : Int)) = true) := by
      simp
      omega
    rcases hg' with hd | ⟨hd, hd1⟩
    all_goals
      go_enter Tryd.func5, Tryd.ntmps5
      go_wp2_with (go_at_call 6; refine HA.out.mono ?_; rintro e w1 ⟨rfl, hb1⟩)
      go_ret
      exact ⟨rfl, hb1⟩
  have d0 : decide (300 < (l.length : Int)) = false := by simp; omega
  have d1 : decide (300 < (p.size : Int)) = false := by simp; omega
  have hps : p.size ≤ 300 := by omega
  clear hg
  go_enter Tryd.func5, Tryd.ntmps5
  go_wp2_with fail
  refine HA.out.mono ?_
  rintro e w1 ⟨rfl, hb1⟩
  have HB1 := Lib.hid hb1
  have HU1 := Lib.hid (IntsAt.below HU.out hb1)
  have HIT := Lib.hid (isText_any p (by omega) w1 (HT.out.next hb1).utf)
  clear hb1 HA HU
  cases hb : LX.isText p.data.toList with
  | false =>
    rw [hb] at HIT
    clear hb
    go_wp2_with fail
    refine HIT.out.mono ?_
    rintro e w2 ⟨rfl, hbt⟩
    have HB2 := Lib.hid (HB1.out.trans (hbt.mono HB1.out.size))
    go_wp2_with fail
    go_ret
    exact ⟨rfl, HB2.out⟩
  | true =>
    rw [hb] at HIT
    clear hb
    go_wp2_with fail
    refine HIT.out.mono ?_
    rintro e w2 ⟨rfl, hbt⟩
    have HB2 := Lib.hid (HB1.out.trans (hbt.mono HB1.out.size))
    have HQA := Lib.hid (query_any l w2 _ (IntsAt.below HU1.out hbt))
    clear hbt
    go_wp2_with fail
    refine HQA.out.mono ?_
    rintro e w3 ⟨vq, rfl, ⟨mv, kv, rfl, hm, hk⟩, hl3⟩
    have HWR := Lib.hid (query_wr l)
    have HFR := Lib.hid (made_len l)
    have HSH := Lib.hid (made_short l)
    have HPG := Lib.hid (show (Qy.query l).page = ⟨#[]⟩ from rfl)
    generalize Qy.query l = q at hm hk HWR HFR HPG HSH ⊢
    obtain ⟨am, cm, rfl, _⟩ := id hm
    obtain ⟨ak, ck, rfl⟩ := hk.shape
    simp only [Qy.val]
    have hl4 : Lay w3 (w3.alloc (.cells #[.int .i64 q.src, .int .i64 q.til, .slice am q.mat.length cm, .int .i64 q.fil.op, .string q.fil.name, .string q.fil.text, .slice ak q.fil.kids.length ck, .bool q.desc, .int .i64 q.lim, .string q.page] 29)) := (Keep.refl _ w3).alloc _
    have HB3 := Lib.hid (HB2.out.trans (hl3.below.mono HB2.out.size))
    have HN4 := Lib.hid hl4.below
    have HM3 := Lib.hid hm
    have HK3 := Lib.hid hk
    have HC4 : Hid (CB (w3.alloc (.cells #[.int .i64 q.src, .int .i64 q.til, .slice am q.mat.length cm, .int .i64 q.fil.op, .string q.fil.name, .string q.fil.text, .slice ak q.fil.kids.length ck, .bool q.desc, .int .i64 q.lim, .string q.page] 29)) w3.heap.size 29 #[.int .i64 q.src, .int .i64 q.til, .slice am q.mat.length cm, .int .i64 q.fil.op, .string q.fil.name, .string q.fil.text, .slice ak q.fil.kids.length ck, .bool q.desc, .int .i64 q.lim, .string q.page]) := Lib.hid (CB.new w3 29 _)
    clear hl3 hl4 hm hk HQA HU1 HIT
    go_upto_region 6 with fail
    revert HN4 HC4
    generalize w3.alloc (.cells #[.int .i64 q.src, .int .i64 q.til, .slice am q.mat.length cm, .int .i64 q.fil.op, .string q.fil.name, .string q.fil.text, .slice ak q.fil.kids.length ck, .bool q.desc, .int .i64 q.lim, .string q.page] 29) = w4
    intro HN4 HC4
    have HT3 := Lib.hid (HT.out.next HB3.out)
    -- what the calls do, at every world that keeps w3
    have HOQ := Lib.hid (fun W (h : Below w3.heap.size w3 W) => ownQuery_any q HWR.out HFR.out W am cm ak ck (MsAt.below HM3.out h) (KsAt.below h _ _ HK3.out) (HT3.out.next h))
    have HPQ := Lib.hid (fun W (h : Below w3.heap.size w3 W) => ownQuery_any (paged q p) (paged_wr HWR.out (by omega)) HFR.out W am cm ak ck (MsAt.below HM3.out h) (KsAt.below h _ _ HK3.out) (HT3.out.next h))
    have HPP := Lib.hid (fun W (h : Below w3.heap.size w3 W) => ownPlain_any (paged q p) (paged_wr HWR.out (by omega)) HFR.out (plain_len (paged_wr HWR.out (by omega))) W am cm ak ck (MsAt.below HM3.out h) (KsAt.below h _ _ HK3.out) (HT3.out.next h))
    have HTXT := Lib.hid (paged_text HWR.out.can HPG.out p)
    have HQT := Lib.hid (fun W (h : Below w3.heap.size w3 W) => quote_any p (by omega) W (HT3.out.next h).utf)
    have HWA : Hid (w.heap.size ≤ w3.heap.size) := Lib.hid HB3.out.size
    generalize w3.heap.size = A at HC4 HN4 HOQ HPQ HPP HQT HWA ⊢
    have c0 := HC4.out.cell 0
    have c1 := HC4.out.cell 1
    have c2 := HC4.out.cell 2
    have c3 := HC4.out.cell 3
    have c4 := HC4.out.cell 4
    have c5 := HC4.out.cell 5
    have c6 := HC4.out.cell 6
    have c7 := HC4.out.cell 7
    have c8 := HC4.out.cell 8
    have c9' := HC4.out.cell 9
    go_wp2_with fail
    refine (HOQ.out _ HN4.out).mono ?_
    rintro e w5 ⟨S, rfl, hS, hb5⟩
    have HS := Lib.hid hS
    have hA4 := HC4.out.lt
    have HN5 := Lib.hid (HN4.out.trans (hb5.mono (Nat.le_of_lt hA4)))
    have HC5 := Lib.hid (HC4.out.below hb5 hA4)
    have hA5 := HC5.out.lt
    have f9 := HC5.out.frozen 9
    have c9 := HC5.out.cell 9
    clear hb5 hS hA4
    obtain ⟨w6, hw6⟩ : ∃ w6, w6 = w5.setCell ⟨A, 9, none⟩ (.string p) := ⟨_, rfl⟩
    have HC6 : Hid (CB w6 A 29 #[.int .i64 q.src, .int .i64 q.til, .slice am q.mat.length cm, .int .i64 q.fil.op, .string q.fil.name, .string q.fil.text, .slice ak q.fil.kids.length ck, .bool q.desc, .int .i64 q.lim, .string p]) := Lib.hid (by rw [hw6]; exact HC5.out.set 9 (.string p))
    have HN6 : Hid (Below A w3 w6) := Lib.hid (by rw [hw6]; exact HN5.out.setCell (p := ⟨A, 9, none⟩) (Nat.le_refl _) _)
    have HW6 := Lib.hid hw6.symm
    clear hw6
    go_upto_region 8 with fail
    rw [HW6.out]
    clear c9 f9 hA5
    have c0 := HC6.out.cell 0
    have c1 := HC6.out.cell 1
    have c2 := HC6.out.cell 2
    have c3 := HC6.out.cell 3
    have c4 := HC6.out.cell 4
    have c5 := HC6.out.cell 5
    have c6 := HC6.out.cell 6
    have c7 := HC6.out.cell 7
    have c8 := HC6.out.cell 8
    have c9 := HC6.out.cell 9
    by_cases hp0 : p = ⟨#[]⟩
    · have HP0 := Lib.hid hp0
      have e1 : (p.toList == ([] : List UInt8)) = true := by rw [hp0, ByteArray.toList_eq]; rfl
      have e2 : p.toList.isEmpty = true := by rw [hp0, ByteArray.toList_eq]; rfl
      clear hp0
      go_wp2_with fail
      refine (HPQ.out _ HN6.out).mono ?_
      rintro e w7 ⟨T, rfl, hT7, hb7⟩
      have hte : (T.toList == S.toList) = true := eq_list (by rw [hT7, HS.out, HTXT.out.1, HTXT.out.2, if_pos HP0.out, List.append_nil])
      have HN7 := Lib.hid (HN6.out.trans (hb7.mono (Nat.le_of_lt HC6.out.lt)))
      have HC7 := Lib.hid (HC6.out.below hb7 HC6.out.lt)
      clear hT7 hb7 c0 c1 c2 c3 c4 c5 c6 c7 c8 c9
      have c0 := HC7.out.cell 0
      have c1 := HC7.out.cell 1
      have c2 := HC7.out.cell 2
      have c3 := HC7.out.cell 3
      have c4 := HC7.out.cell 4
      have c5 := HC7.out.cell 5
      have c6 := HC7.out.cell 6
      have c7 := HC7.out.cell 7
      have c8 := HC7.out.cell 8
      have c9 := HC7.out.cell 9
      go_wp2_with fail
      refine (HPP.out _ HN7.out).mono ?_
      rintro e w8 ⟨U, rfl, hU8, hb8⟩
      have hue : (U.toList == S.toList) = true := eq_list (by rw [hU8, paged_plain, HS.out, HTXT.out.1])
      have HN8 := Lib.hid (HN7.out.trans (hb8.mono (Nat.le_of_lt HC7.out.lt)))
      clear hU8 hb8 c0 c1 c2 c3 c4 c5 c6 c7 c8 c9
      go_wp2_with fail
      go_ret
      exact ⟨rfl, HB3.out.trans (HN8.out.mono HWA.out)⟩
    · have HP0 := Lib.hid hp0
      have e2 : p.toList.isEmpty = false := by
        rw [ByteArray.toList_eq]
        rcases hl : p.data.toList with _ | ⟨x, r⟩
        · exact absurd (ByteArray.ext (by simpa using hl)) hp0
        · rfl
      have e1 : (p.toList == ([] : List UInt8)) = false := by
        rw [ByteArray.toList_eq]
        rcases hl : p.data.toList with _ | ⟨x, r⟩
        · exact absurd (ByteArray.ext (by simpa using hl)) hp0
        · rfl
      have hSs : S.size ≤ 200000 := by rw [Lib.size_eq, HS.out]; exact HSH.out
      obtain ⟨QT, hQT⟩ : ∃ QT : ByteArray, QT = ⟨(LX.quote p.data.toList).toArray⟩ := ⟨_, rfl⟩
      have hql : QT.size ≤ 4000 := by
        rw [hQT, Lib.size_eq]
        have h1 := quote_two p.data.toList
        have h2 : p.data.toList.length = p.size := (Lib.size_eq p).symm
        simp only
        omega
      rw [← hQT] at HQT
      have HQD : Hid (QT.data.toList = LX.quote p.data.toList) := Lib.hid (by rw [hQT])
      clear hp0 hQT
      go_wp2_with fail
      refine (HPP.out _ HN6.out).mono ?_
      rintro e w7 ⟨U, rfl, hU7, hb7⟩
      have hue : (U.toList == S.toList) = true := eq_list (by rw [hU7, paged_plain, HS.out, HTXT.out.1])
      have HN7 := Lib.hid (HN6.out.trans (hb7.mono (Nat.le_of_lt HC6.out.lt)))
      have HC7 := Lib.hid (HC6.out.below hb7 HC6.out.lt)
      clear hU7 hb7 c0 c1 c2 c3 c4 c5 c6 c7 c8 c9
      have c0 := HC7.out.cell 0
      have c1 := HC7.out.cell 1
      have c2 := HC7.out.cell 2
      have c3 := HC7.out.cell 3
      have c4 := HC7.out.cell 4
      have c5 := HC7.out.cell 5
      have c6 := HC7.out.cell 6
      have c7 := HC7.out.cell 7
      have c8 := HC7.out.cell 8
      have c9 := HC7.out.cell 9
      go_wp2_with fail
      refine (HPQ.out _ HN7.out).mono ?_
      rintro e w8 ⟨T, rfl, hT8, hb8⟩
      have hte : (T.toList == (S ++ ⟨#[32, 112, 97, 103, 101, 32]⟩ ++ QT).toList) = true := eq_list (by
        rw [hT8, HTXT.out.2, if_neg HP0.out]
        simp only [ByteArray.data_append, Array.toList_append, HS.out, HTXT.out.1, HQD.out, List.append_assoc])
      have HN8 := Lib.hid (HN7.out.trans (hb8.mono (Nat.le_of_lt HC7.out.lt)))
      have HC8 := Lib.hid (HC7.out.below hb8 HC7.out.lt)
      clear hT8 hb8 c0 c1 c2 c3 c4 c5 c6 c7 c8 c9
      go_wp2_with fail
      refine (HQT.out _ HN8.out).mono ?_
      rintro e w9 ⟨rfl, hb9⟩
      have HN9 := Lib.hid (HN8.out.trans (hb9.mono (Nat.le_of_lt HC8.out.lt)))
      clear hb9
      go_wp2_with fail
      go_ret
      exact ⟨rfl, HB3.out.trans (HN9.out.mono HWA.out)⟩
end Go.Proofs.YtmodiemmcdocdaaDoor
