/-
  PACKAGE show: put, Filter.
-/
import Derived.Test.YtkckgjanfiiieaaGreatDoorPt8
import Derived.BigRegion
import Derived.Deep.RegionLaw
namespace Go.Proofs.YtkckgjanfiiieaaGreatDoor
open Go.RowKit Go

theorem Bw.str {W0 w : World} {v : Value} {l : List UInt8} (h : Bw W0 w v l) : (convert 70 9 v).run Tryz.prog w = .ok (.string ⟨l.toArray⟩) w := by
  obtain ⟨h0, ⟨rfl, hn⟩ | ⟨g, cap, rfl, _, hg, hlc, hm, hc, hf⟩⟩ := h.rk
  · obtain rfl : l = [] := List.eq_nil_of_length_eq_zero hn
    rw [run_convert_bytes_string w 70 9 5 none 0 0 Tryz.underlying70 Tryz.underlying5 Tryz.underlying9]
    simp [Conv.bytesToString]
    rfl
  · exact run_convert_bytes_back w 70 9 5 ⟨g, 0, none⟩ cap l Tryz.underlying70 Tryz.underlying5 Tryz.underlying9 (fun j hj => by
      rw [add_lit0, hc j (by unfold Lib.byteCells; rw [List.length_map]; exact hj)]
      simp [Lib.byteCells, List.getElem?_map, List.getElem?_eq_getElem hj])

theorem str_len {S : ByteArray} {l : List UInt8} (h : S.data.toList = l) : S.size = l.length := by rw [Lib.size_eq, h]

/-- append, as one step of a region that draws, of whatever type, by what it is known to run to. -/
theorem step_append_txt {P : Program} {ops : Array Oper} {o : Oper} {a : Act} {w w' : World} {K : Act → World → Prop} {Q : Exit → Act → World → Prop} {E : Prop} {sv xv v' : Value}
    (hg : o.guard = none) (s x : Operand) (t tx : TypeId) (hop : o.op = Op.call { callee := Callee.builtin Builtin.append, args := #[s, x], argTypes := #[t, tx] })
    (hs : a.eval s = sv) (hx : a.eval x = xv) (hrun : (Builtin.append_ #[t, tx] o.type #[sv, xv]).run P w = .ok v' w') (hK : K (a.put o.dst v') w') :
    if Region.wanted o (yielded ops a.tmps) = true then Oper.wp P o a w K Q else E := by
  have hw : Region.wanted o (yielded ops a.tmps) = true := by simp [Region.wanted, hg]
  rw [if_pos hw]
  unfold Oper.wp
  simp [execOp, hop, resolve, invoke, builtin, hs, hx, hrun, Result.andThen]
  exact hK

/-- The texts of leaves. -/
theorem fText_leaf (n t : ByteArray) : fText (.mk 1 n t []) = [116, 114, 117, 101] ∧ fText (.mk 2 n t []) = [102, 97, 108, 115, 101] ∧ fText (.mk 3 n t []) = [119, 111, 114, 100, 32] ++ LX.quote t.data.toList ∧ fText (.mk 4 n t []) = [104, 97, 115, 32] ++ LX.quote t.data.toList ∧
    fText (.mk 5 n t []) = [102, 105, 101, 108, 100, 32] ++ n.data.toList ++ [61] ++ LX.quote t.data.toList := by
  refine ⟨by unfold fText; rw [PX.fsp]; rfl, by unfold fText; rw [PX.fsp]; rfl, ?_, ?_, ?_⟩
  · unfold fText; rw [PX.fsp]
    show PX.spell [(0, PX.kW PX.wWord), (1, PX.kT t.data.toList)] = _
    rw [PX.spell, PX.spell, PX.spell]
    unfold PX.lts
    simp [PX.kW, PX.kT, PX.wWord]
  · unfold fText; rw [PX.fsp]
    show PX.spell [(0, PX.kW PX.wHas), (1, PX.kT t.data.toList)] = _
    rw [PX.spell, PX.spell, PX.spell]
    unfold PX.lts
    simp [PX.kW, PX.kT, PX.wHas]
  · unfold fText; rw [PX.fsp]
    show PX.spell [(0, PX.kW PX.wField), (1, PX.kN n.data.toList), (0, PX.kS PX.wEq), (0, PX.kT t.data.toList)] = _
    rw [PX.spell, PX.spell, PX.spell, PX.spell, PX.spell]
    unfold PX.lts
    simp [PX.kW, PX.kT, PX.kN, PX.kS, PX.wField, PX.wEq]

set_option maxHeartbeats 8000000 in
set_option maxRecDepth 100000 in
/-- put, of a filter that nothing stands within. -/
theorem put_leaf (op : Int) (n t : ByteArray) (aa : Option Addr) (cc : Nat) (hop : 1 ≤ op ∧ op ≤ 5) (hn : n.size ≤ 100000) (ht : t.size ≤ 100000) {W0 : World} (hT : Lib.Utf8Tabs 4 5 W0) (w : World) (v : Value) (l : List UInt8) (hb : Bw W0 w v l) (hl : l.length ≤ 1000000000) :
    Calls Tryz.prog 47 #[v, .agg #[.int .i64 op, .string n, .string t, .slice aa 0 cc]] w (PutP W0 (l ++ fText (.mk op n t []))) := by
  obtain ⟨i5, z5, E5⟩ := elem5
  obtain ⟨W1, hW1⟩ : ∃ W1, W1 = w.alloc (.cells #[.int .i64 op, .string n, .string t, .slice aa 0 cc] 26) := ⟨_, rfl⟩
  have HW := Lib.hid hW1.symm
  have HB1 : Hid (Bw W0 W1 v l) := Lib.hid (by rw [hW1]; exact hb.alloc _)
  have HC1 : Hid (CB W1 w.heap.size 26 #[.int .i64 op, .string n, .string t, .slice aa 0 cc]) := Lib.hid (by rw [hW1]; exact CB.new w 26 _)
  have HOF : Hid (¬ At v w.heap.size) := Lib.hid (hb.off (Nat.le_refl _))
  have hA1 : w.heap.size < W1.heap.size := by rw [hW1]; simp
  have HA1 := Lib.hid hA1
  clear hW1 hA1
  obtain ⟨av, cv, hvs⟩ := hb.rk.shape
  clear hb
  subst hvs
  have c0 := HC1.out.cell 0
  have c1 := HC1.out.cell 1
  have c2 := HC1.out.cell 2
  have c3 := HC1.out.cell 3
  obtain ⟨q, hq⟩ : ∃ q : ByteArray, q = ⟨(LX.quote t.data.toList).toArray⟩ := ⟨_, rfl⟩
  have hql : q.size ≤ 1000010 := by
    rw [hq, str_len (l := LX.quote t.data.toList) (by simp)]
    have h1 := quote_len t.data.toList
    have h2 : t.data.toList.length = t.size := (Lib.size_eq t).symm
    omega
  have HQ := Lib.hid (fun W (h : Below W0.heap.size W0 W) => own_quote_any t (by omega) W (Utf8Tabs_below hT h))
  rw [← hq] at HQ
  have HQD : Hid (q.data.toList = LX.quote t.data.toList) := Lib.hid (by rw [hq])
  clear hq hT
  obtain ⟨t1, t2, t3, t4, t5⟩ := fText_leaf n t
  rcases (by omega : op = 1 ∨ op = 2 ∨ op = 3 ∨ op = 4 ∨ op = 5) with rfl | rfl | rfl | rfl | rfl
  · have HT1 := Lib.hid t1
    clear t1 t2 t3 t4 t5
    go_enter Tryz.func47, Tryz.ntmps47
    go_upto_region 1 with fail
    rw [HW.out]
    go_wp2_with (at_builtin; refine wpList_append_rk E5 _ rfl _ _ 9 rfl (G := fun b => W0.heap.size ≤ b) rfl HB1.out.rk ?a1 _ 4 (byteCells ⟨#[116, 114, 117, 101]⟩) rfl (Src.ofString _ Tryz.underlying9 ⟨#[116, 114, 117, 101]⟩) ?a2 ?a3 ?_)
    case a1 => intro j hj; exact Nat.le_trans HB1.out.low.size hj
    case a2 => omega
    case a3 => omega
    intro v2 w2 hr2 hk2
    have HB2 := Lib.hid (HB1.out.app [116, 114, 117, 101] rfl rfl hr2 hk2)
    clear hr2 hk2
    go_wp2_with fail
    go_ret
    exact ⟨_, rfl, by rw [HT1.out]; exact HB2.out⟩
  · have HT1 := Lib.hid t2
    clear t1 t2 t3 t4 t5
    go_enter Tryz.func47, Tryz.ntmps47
    go_upto_region 1 with fail
    rw [HW.out]
    go_wp2_with (at_builtin; refine wpList_append_rk E5 _ rfl _ _ 9 rfl (G := fun b => W0.heap.size ≤ b) rfl HB1.out.rk ?a1 _ 5 (byteCells ⟨#[102, 97, 108, 115, 101]⟩) rfl (Src.ofString _ Tryz.underlying9 ⟨#[102, 97, 108, 115, 101]⟩) ?a2 ?a3 ?_)
    case a1 => intro j hj; exact Nat.le_trans HB1.out.low.size hj
    case a2 => omega
    case a3 => omega
    intro v2 w2 hr2 hk2
    have HB2 := Lib.hid (HB1.out.app [102, 97, 108, 115, 101] rfl rfl hr2 hk2)
    clear hr2 hk2
    go_wp2_with fail
    go_ret
    exact ⟨_, rfl, by rw [HT1.out]; exact HB2.out⟩
  · have HT1 := Lib.hid t3
    clear t1 t2 t3 t4 t5
    go_enter Tryz.func47, Tryz.ntmps47
    go_upto_region 1 with fail
    rw [HW.out]
    go_wp2_with fail
    refine (HQ.out W1 HB1.out.low).mono ?_
    rintro e w2 ⟨rfl, hb2⟩
    have HB2 := Lib.hid (HB1.out.next hb2)
    obtain ⟨S, hS⟩ : ∃ S : ByteArray, S = ⟨#[119, 111, 114, 100, 32]⟩ ++ q := ⟨_, rfl⟩
    have HS := Lib.hid hS
    have hSS : S.size ≤ 1000020 := by rw [hS, ByteArray.size_append]; rw [show (ByteArray.mk #[119, 111, 114, 100, 32]).size = 5 from rfl]; omega
    clear hb2 c0 c1 c2 c3 hS
    go_wp2_with (at_builtin; refine wpList_append_rk E5 _ rfl _ _ 9 rfl (G := fun b => W0.heap.size ≤ b) rfl HB2.out.rk ?a1 (.string S) S.size (byteCells S) (by rw [HS.out]; rfl) (Src.ofString _ Tryz.underlying9 S) ?a2 ?a3 ?_)
    case a1 => intro j hj; exact Nat.le_trans HB2.out.low.size hj
    case a2 => omega
    case a3 => omega
    intro v3 w3 hr3 hk3
    have HB3 := Lib.hid (HB2.out.app S.data.toList (Lib.size_eq S) rfl hr3 hk3)
    clear hr3 hk3
    go_wp2_with fail
    go_ret
    refine ⟨_, rfl, ?_⟩
    have := HB3.out
    rw [HT1.out]
    rw [show S.data.toList = [119, 111, 114, 100, 32] ++ LX.quote t.data.toList by rw [HS.out, ← HQD.out]; simp] at this
    exact this
  · have HT1 := Lib.hid t4
    clear t1 t2 t3 t4 t5
    go_enter Tryz.func47, Tryz.ntmps47
    go_upto_region 1 with fail
    rw [HW.out]
    go_wp2_with fail
    refine (HQ.out W1 HB1.out.low).mono ?_
    rintro e w2 ⟨rfl, hb2⟩
    have HB2 := Lib.hid (HB1.out.next hb2)
    obtain ⟨S, hS⟩ : ∃ S : ByteArray, S = ⟨#[104, 97, 115, 32]⟩ ++ q := ⟨_, rfl⟩
    have HS := Lib.hid hS
    have hSS : S.size ≤ 1000020 := by rw [hS, ByteArray.size_append]; rw [show (ByteArray.mk #[104, 97, 115, 32]).size = 4 from rfl]; omega
    clear hb2 c0 c1 c2 c3 hS
    go_wp2_with (at_builtin; refine wpList_append_rk E5 _ rfl _ _ 9 rfl (G := fun b => W0.heap.size ≤ b) rfl HB2.out.rk ?a1 (.string S) S.size (byteCells S) (by rw [HS.out]; rfl) (Src.ofString _ Tryz.underlying9 S) ?a2 ?a3 ?_)
    case a1 => intro j hj; exact Nat.le_trans HB2.out.low.size hj
    case a2 => omega
    case a3 => omega
    intro v3 w3 hr3 hk3
    have HB3 := Lib.hid (HB2.out.app S.data.toList (Lib.size_eq S) rfl hr3 hk3)
    clear hr3 hk3
    go_wp2_with fail
    go_ret
    refine ⟨_, rfl, ?_⟩
    have := HB3.out
    rw [HT1.out]
    rw [show S.data.toList = [104, 97, 115, 32] ++ LX.quote t.data.toList by rw [HS.out, ← HQD.out]; simp] at this
    exact this
  · have HT1 := Lib.hid t5
    clear t1 t2 t3 t4 t5
    obtain ⟨S, hS⟩ : ∃ S : ByteArray, S = ⟨#[102, 105, 101, 108, 100, 32]⟩ ++ n ++ ⟨#[61]⟩ ++ q := ⟨_, rfl⟩
    have HS := Lib.hid hS
    have HSS : Hid (S.size ≤ 1200020) := Lib.hid (by rw [hS, ByteArray.size_append, ByteArray.size_append, ByteArray.size_append]; rw [show (ByteArray.mk #[102, 105, 101, 108, 100, 32]).size = 6 from rfl, show (ByteArray.mk #[61]).size = 1 from rfl]; omega)
    clear hS
    have hn6 : ¬ (9223372036854775807 < 6 + n.size) := by omega
    have hn7 : ¬ (9223372036854775807 < 6 + n.size + 1) := by omega
    have hn8 : ¬ (9223372036854775807 < 6 + n.size + 1 + q.size) := by omega
    have hnl : n.data.size ≤ 100000 := hn
    have HLL := Lib.hid hl
    have HQW := Lib.hid (HQ.out W1.drew HB1.out.drew.low)
    have HB1d := Lib.hid HB1.out.drew
    clear HQ
    go_enter Tryz.func47, Tryz.ntmps47
    go_upto_region 11 with fail
    rw [HW.out]
    go_region_law (first | (refine step_append_txt rfl _ _ _ _ rfl rfl (by rw [HS.out]; rfl) hrun ?_) | (go_simp; go_at_call 46; refine HQW.out.mono ?_; rintro e w2 ⟨rfl, hb2⟩; have HB2 := Lib.hid (HB1d.out.next hb2); have HC2 := CB.below (n := W1.heap.size) (W := W1.drew) HC1.out hb2 HA1.out; have d0 := HC2.cell 0; have d1 := HC2.cell 1; have d2 := HC2.cell 2; have d3 := HC2.cell 3; obtain ⟨v3, w3, hrun, hr3, hk3⟩ := run_append_rk E5 HB2.out.rk (fun j hj => Nat.le_trans HB2.out.low.size hj) 9 122 (.string S) S.size (byteCells S) (Src.ofString _ Tryz.underlying9 S) (by have := HSS.out; have := HLL.out; omega) (by have := HSS.out; have := HLL.out; omega); have HB3 := Lib.hid (HB2.out.app S.data.toList (Lib.size_eq S) rfl hr3 hk3); clear hr3 hk3))
    all_goals
      go_wp2_with fail
      go_ret
      refine ⟨_, rfl, ?_⟩
      have := HB3.out
      rw [HT1.out]
      rw [show S.data.toList = [102, 105, 101, 108, 100, 32] ++ n.data.toList ++ [61] ++ LX.quote t.data.toList by rw [HS.out, ← HQD.out]; simp] at this
      exact this

set_option maxHeartbeats 8000000 in
set_option maxRecDepth 100000 in
/-- put, of a filter with kids. -/
theorem put_kids (op : Int) (n t : ByteArray) (ks : List Ft) (b off cc : Nat) (h6 : 6 ≤ op ∧ op ≤ 8) (hc : PX.Can (.mk op n t ks)) {W0 : World} (hka : KAt W0 b off ks) (hbl : b < W0.heap.size) (hP : ∀ k ∈ ks, Puts k W0) (w : World) (v : Value) (l : List UInt8) (hb : Bw W0 w v l) (hl : l.length + (fText (.mk op n t ks)).length ≤ 1000000000) (hkl : ks.length ≤ 9223372036854775807) :
    Calls Tryz.prog 47 #[v, .agg #[.int .i64 op, .string n, .string t, .slice (some ⟨b, off, none⟩) ks.length cc]] w (PutP W0 (l ++ fText (.mk op n t ks))) := by
  obtain ⟨hne, hcs, h1, htx⟩ := fText_of h6 hc
  have hop : ∀ k ∈ ks, k.op ≤ 8 := fun k hk => by
    have := PX.Cans.mem hcs hk
    obtain ⟨o, a, b, c⟩ := k
    rw [PX.Can] at this
    show o ≤ 8
    rcases this with ⟨h | h, _⟩ | ⟨h | h, _⟩ | ⟨h, _⟩ | ⟨h, _⟩ | ⟨h | h, _⟩ <;> omega
  have HTX := Lib.hid htx
  rw [htx, List.length_append] at hl
  clear htx
  obtain ⟨i5, z5, E5⟩ := elem5
  obtain ⟨W1, hW1⟩ : ∃ W1, W1 = w.alloc (.cells #[.int .i64 op, .string n, .string t, .slice (some ⟨b, off, none⟩) ks.length cc] 26) := ⟨_, rfl⟩
  have HW := Lib.hid hW1.symm
  have HB1 : Hid (Bw W0 W1 v l) := Lib.hid (by rw [hW1]; exact hb.alloc _)
  have HC1 : Hid (CB W1 w.heap.size 26 #[.int .i64 op, .string n, .string t, .slice (some ⟨b, off, none⟩) ks.length cc]) := Lib.hid (by rw [hW1]; exact CB.new w 26 _)
  have HOF : Hid (¬ At v w.heap.size) := Lib.hid (hb.off (Nat.le_refl _))
  have hA1 : w.heap.size < W1.heap.size := by rw [hW1]; simp
  have HA1 := Lib.hid hA1
  clear hW1 hA1
  obtain ⟨av, cv, hvs⟩ := hb.rk.shape
  clear hb
  subst hvs
  have c0 := HC1.out.cell 0
  have c1 := HC1.out.cell 1
  have c2 := HC1.out.cell 2
  have c3 := HC1.out.cell 3
  rcases (by omega : op = 6 ∨ op = 7 ∨ op = 8) with rfl | rfl | rfl
  · have hl1 := h1 rfl
    rw [if_pos rfl, if_neg (by decide)] at hl
    have HPK := Lib.hid (fun W V L (hB : Bw W0 W V L) hL => putKids_of (wd := PX.wAnd) hP hop ⟨#[]⟩ (fun h => by omega) (by decide) b off cc hka hbl hne W V L hB hL hkl)
    have HE : Hid (fText (.mk 6 n t ks) = [110, 111, 116, 32] ++ rText PX.wAnd ks) := Lib.hid (by rw [HTX.out, if_pos rfl, if_neg (by decide)])
    have HLL : Hid (l.length + 4 + (rText PX.wAnd ks).length ≤ 1000000000) := Lib.hid (by simp at hl; omega)
    have hl4 : l.length ≤ 1000000000 := by have := HLL.out; omega
    have HL4 := Lib.hid hl4
    have HB1d := Lib.hid HB1.out.drew
    clear hP hop hka hl hl1 h1 hcs hc
    go_enter Tryz.func47, Tryz.ntmps47
    obtain ⟨v2, w2, hrun, hr2, hk2⟩ := run_append_rk E5 HB1d.out.rk (fun j hj => Nat.le_trans HB1d.out.low.size hj) 9 122 (.string ⟨#[110, 111, 116, 32]⟩) 4 (byteCells ⟨#[110, 111, 116, 32]⟩) (Src.ofString _ Tryz.underlying9 ⟨#[110, 111, 116, 32]⟩) (by omega) (by omega)
    have HB2 := Lib.hid (HB1d.out.app [110, 111, 116, 32] rfl rfl hr2 hk2)
    have HC2 := CB.keep (W := W1.drew) HC1.out hk2 HOF.out
    have d0 := HC2.cell 0
    have d1 := HC2.cell 1
    have d2 := HC2.cell 2
    have d3 := HC2.cell 3
    have HPQ := Lib.hid (HPK.out w2 v2 _ HB2.out (by have := HLL.out; simp; omega))
    clear hr2 hk2 HC2 HPK
    go_upto_region 13 with fail
    rw [HW.out]
    go_region_law (first | (refine step_append_txt rfl _ _ _ _ rfl rfl rfl hrun ?_) | (go_simp; go_at_call 67; refine HPQ.out.mono ?_; rintro e w3 ⟨v3, rfl, hb3⟩; have HB3 := Lib.hid hb3; clear hb3))
    all_goals
      go_wp2_with fail
      go_ret
      refine ⟨_, rfl, ?_⟩
      have := HB3.out
      rw [HE.out]
      rw [List.append_assoc] at this
      exact this
  · rw [if_neg (by decide), if_neg (by decide)] at hl
    have HPK := Lib.hid (putKids_of (wd := PX.wAnd) hP hop ⟨#[32, 97, 110, 100, 32]⟩ (fun h => rfl) (by decide) b off cc hka hbl hne W1 _ l HB1.out (by simpa using hl) hkl)
    have HE : Hid (fText (.mk 7 n t ks) = rText PX.wAnd ks) := Lib.hid (by rw [HTX.out, if_neg (by decide), if_neg (by decide), List.nil_append])
    clear hP hop hka hl h1 hcs hc
    go_enter Tryz.func47, Tryz.ntmps47
    go_upto_region 1 with fail
    rw [HW.out]
    go_wp2_with fail
    refine HPK.out.mono ?_
    rintro e w3 ⟨v3, rfl, hb3⟩
    have HB3 := Lib.hid hb3
    clear hb3 HPK
    go_wp2_with fail
    go_ret
    exact ⟨_, rfl, by rw [HE.out]; exact HB3.out⟩
  · rw [if_pos rfl, if_neg (by decide)] at hl
    have HPK := Lib.hid (putKids_of (wd := PX.wOr) hP hop ⟨#[32, 111, 114, 32]⟩ (fun h => rfl) (by decide) b off cc hka hbl hne W1 _ l HB1.out (by simpa using hl) hkl)
    have HE : Hid (fText (.mk 8 n t ks) = rText PX.wOr ks) := Lib.hid (by rw [HTX.out, if_neg (by decide), if_pos rfl, List.nil_append])
    clear hP hop hka hl h1 hcs hc
    go_enter Tryz.func47, Tryz.ntmps47
    go_upto_region 1 with fail
    rw [HW.out]
    go_wp2_with fail
    refine HPK.out.mono ?_
    rintro e w3 ⟨v3, rfl, hb3⟩
    have HB3 := Lib.hid hb3
    clear hb3 HPK
    go_wp2_with fail
    go_ret
    exact ⟨_, rfl, by rw [HE.out]; exact HB3.out⟩

/-- put, of whichever filter. -/
theorem put_any : ∀ (m : Nat) (f : Ft), f.count ≤ m → PX.Can f → Sm 100000 f → ∀ (W0 : World), Lib.Utf8Tabs 4 5 W0 → Puts f W0
  | 0, .mk _ _ _ _, hn, _, _, _, _ => by rw [Ft.count] at hn; omega
  | m + 1, .mk op n t ks, hn, hc, hs, W0, hT => by
    intro kv w v l hk hb hl
    obtain ⟨a, c, rfl⟩ := hk.shape
    rw [Ft.count] at hn
    rw [Sm] at hs
    obtain ⟨hn1, hn2, hsm⟩ := hs
    by_cases h6 : 6 ≤ op
    · have h8 : op ≤ 8 := by
        rw [PX.Can] at hc
        rcases hc with ⟨h | h, _⟩ | ⟨h | h, _⟩ | ⟨h, _⟩ | ⟨h, _⟩ | ⟨h | h, _⟩ <;> omega
      obtain ⟨hne, hcs, _, _⟩ := fText_of ⟨h6, h8⟩ hc
      rw [KsAt] at hk
      obtain ⟨_, _, hv, hlb, hk⟩ := hk
      simp only [Ft.kids, Value.slice.injEq] at hv
      obtain ⟨rfl, _, rfl⟩ := hv
      obtain ⟨b, off, rfl, hbl, hka⟩ : ∃ b off, a = some ⟨b, off, none⟩ ∧ b < W0.heap.size ∧ KAt W0 b off ks := hk.resolve_left hne
      exact put_kids op n t ks b off _ ⟨h6, h8⟩ hc hka hbl (fun k hkm => put_any m k (by have := PX.count_mem hkm; omega) (PX.Cans.mem hcs hkm) (Sms.mem hsm hkm) W0 hT) w v l hb hl hlb
    · have hl0 : ks = [] := by
        rw [PX.Can] at hc
        rcases hc with ⟨_, _, _, h⟩ | ⟨_, _, h⟩ | ⟨_, h⟩ | ⟨h, _⟩ | ⟨h | h, _⟩
        · exact h
        · exact h
        · exact h
        · omega
        · omega
        · omega
      subst hl0
      have h1 : 1 ≤ op := by
        rw [PX.Can] at hc
        rcases hc with ⟨h | h, _⟩ | ⟨h | h, _⟩ | ⟨h, _⟩ | ⟨h, _⟩ | ⟨h | h, _⟩ <;> omega
      exact put_leaf op n t a c ⟨h1, by omega⟩ hn1 hn2 hT w v l hb (by omega)

set_option maxHeartbeats 4000000 in
set_option maxRecDepth 100000 in
/-- show.Filter. -/
theorem ownFilter_any (f : Ft) (hc : PX.Can f) (hs : Sm 100000 f) (hlen : (fText f).length ≤ 1000000000) (w : World) (kv : Value) (hk : KsAt w kv f) (hT : Lib.Utf8Tabs 4 5 w) : Calls Tryz.prog 38 #[f.val kv] w (TextR f w) := by
  obtain ⟨W1, hW1⟩ : ∃ W1, W1 = w.alloc (.cells #[.int .i64 f.op, .string f.name, .string f.text, kv] 26) := ⟨_, rfl⟩
  have hb1 : Below w.heap.size w W1 := by rw [hW1]; exact (Below.refl _ w).alloc (Nat.le_refl _) _
  have HC1 : Hid (CB W1 w.heap.size 26 #[.int .i64 f.op, .string f.name, .string f.text, kv]) := Lib.hid (by rw [hW1]; exact CB.new w 26 _)
  have HP := Lib.hid (put_any f.count f (Nat.le_refl _) hc hs W1 (Utf8Tabs_below hT hb1) kv W1 _ [] (KsAt.below hb1 _ _ hk) (Bw.nil W1) (by simpa using hlen))
  have HW := Lib.hid hW1.symm
  have HB1 := Lib.hid hb1
  obtain ⟨ak, ck, rfl⟩ := hk.shape
  clear hW1 hb1 hc hs hlen hk hT
  have c0 := HC1.out.cell 0
  have c1 := HC1.out.cell 1
  have c2 := HC1.out.cell 2
  have c3 := HC1.out.cell 3
  simp only [Ft.val] at HP ⊢
  go_enter Tryz.func38, Tryz.ntmps38
  go_upto_region 1 with fail
  rw [HW.out]
  go_wp2_with fail
  refine HP.out.mono ?_
  rintro e w2 ⟨v2, rfl, hb2⟩
  have hcv := hb2.str
  have HB2 := Lib.hid (HB1.out.trans (hb2.low.mono HB1.out.size))
  clear hb2 HP c0 c1 c2 c3
  go_wp2_with fail
  go_ret
  exact ⟨_, rfl, by simp, HB2.out⟩
end Go.Proofs.YtkckgjanfiiieaaGreatDoor
