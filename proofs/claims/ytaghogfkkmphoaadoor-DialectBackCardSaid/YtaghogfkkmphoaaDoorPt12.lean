/-
  dialect.Put: A QUESTION's BYTES.
-/
import Derived.Test.YtaghogfkkmphoaaDoorPw12
import Derived.Test.YtaghogfkkmphoaaDoorTy12
namespace Go.Proofs.YtaghogfkkmphoaaDoor.E4
open Go.RowKit Go

set_option maxHeartbeats 4000000 in
set_option maxRecDepth 100000 in
theorem put_any {H : Nat → Prop} {w0 w : World} {sv av mv : Value} {l : List UInt8} (a : Ask) (hb : Below w0.heap.size w0 w) (h1 : TextsAt w0 av a.all) (h2 : MsAt w0 mv a.mat) (hs : By H w sv l) (ha : ∀ b, At sv b → w0.heap.size ≤ b) (hl : l.length ≤ 900) (hok : a.Ok) :
    Calls Tryd.prog 17 #[sv, a.dyn av mv] w (PutPost sv (l ++ a.bytes) w) := by
  have q1 := is59_yes
  have q3 := is59_no66
  have q4 := is59_no55
  have r1 := is66_yes
  have r3 := is66_no55
  obtain ⟨aa, ca, rfl, hz1, hz2⟩ := id h1
  obtain ⟨am, cm, rfl, hz3, hz4⟩ := id h2
  clear hz1 hz2 hz3 hz4
  have ht : a.times = .tuple #[.int .i64 a.src, .int .i64 a.til, .bool true] := by unfold Ask.times Ask.timed; rw [decide_eq_true hok.kd]; rfl
  have HT := Lib.hid (times_lay a aa am a.all.length ca a.mat.length cm w)
  have HKI := Lib.hid (fun W => kind_any a (.slice aa a.all.length ca) (.slice am a.mat.length cm) W)
  rw [ht] at HT
  obtain ⟨kn, hkn⟩ : ∃ kn : Nat, kn = a.kd.toNat := ⟨_, rfl⟩
  have hki : a.kind = ((kn : Nat) : Int) := by unfold Ask.kind; rw [if_pos hok.kd, hkn]; have := hok.kd; omega
  rw [hki] at HKI
  have hk3 : kn ≤ 3 := by have := hok.kd; omega
  have ek : IntKind.u64.wrap ((kn : Nat) : Int) = ((kn : Nat) : Int) := by rw [IntKind.wrap_u64]; omega
  have i1 := Lib.uvarint_length64 (x := kn) (by omega)
  have HKN := Lib.hid hkn
  have i2 := Lib.uvarint_length64 (Lib.zigzag_lt hok.src.1 hok.src.2)
  have i3 := Lib.uvarint_length64 (Lib.zigzag_lt hok.til.1 hok.til.2)
  have HS := Lib.hid (PI.start hs)
  have HB := Lib.hid hb
  have HA := Lib.hid ha
  have HOK := Lib.hid hok
  have H1 := Lib.hid h1
  have H2 := Lib.hid h2
  have HBY := Lib.hid hs
  obtain ⟨dv, hdv⟩ : ∃ v, v = a.dyn (.slice aa a.all.length ca) (.slice am a.mat.length cm) := ⟨_, rfl⟩
  rw [← hdv] at HT HKI ⊢
  have HDV := Lib.hid hdv
  clear hb h1 h2 hs ha hok ht hki hdv hkn
  go_enter Tryd.func17, Tryd.ntmps17
  go_wp2_with fail
  refine HT.out.mono ?_
  rintro x w1 ⟨rfl, hl1⟩
  have HL1 := Lib.hid hl1
  have HU := Lib.hid (uint_put kn (by omega) sv l w1 (HBY.out.lay HL1.out) (by omega))
  clear hl1 HT
  go_wp2_with fail
  refine (HKI.out _).mono ?_
  rintro x w9 ⟨rfl, hx⟩
  have hx4 := Eq.symm hx
  clear hx
  subst hx4
  go_wp2_with fail
  refine HU.out.mono ?_
  intro e w2 hp
  obtain ⟨v2, rfl, hpi, -⟩ := HS.out.put (Lay.keep HL1.out) hp
  have HP2 := Lib.hid hpi
  have HI := Lib.hid (int_put a.src HOK.out.src.1 HOK.out.src.2 v2 _ w2 hpi.1 (by rw [List.length_append]; omega))
  clear hp hpi HU ek
  go_wp2_with fail
  refine HI.out.mono ?_
  intro e w3 hp
  obtain ⟨v3, rfl, hpi, -⟩ := HP2.out.put (Keep.refl _ _) hp
  have HP3 := Lib.hid hpi
  have HJ := Lib.hid (int_put a.til HOK.out.til.1 HOK.out.til.2 v3 _ w3 hpi.1 (by simp only [List.length_append]; omega))
  clear hp hpi HI
  go_wp2_with fail
  refine HJ.out.mono ?_
  intro e w4 hp
  obtain ⟨v4, rfl, hpi, -⟩ := HP3.out.put (Keep.refl _ _) hp
  have HP4 := Lib.hid hpi
  clear hp hpi HJ
  have hdv := HDV.out
  by_cases k1 : a.kd = 1
  · rw [dyn1 k1] at hdv
    subst hdv
    have HTL : Hid (l ++ Lib.uvarint kn ++ Lib.uvarint (Lib.zigzag a.src) ++ Lib.uvarint (Lib.zigzag a.til) ++ a.tail = l ++ a.bytes) := Lib.hid (by unfold Ask.bytes; rw [HKN.out]; simp only [List.append_assoc])
    have htl : a.tail = Lib.uvarint a.all.length ++ (a.all.map rowB).flatten := by unfold Ask.tail; rw [if_pos k1]
    obtain ⟨wx, hwx⟩ : ∃ wx, wx = w4.alloc (.cells #[.int .i64 a.src, .int .i64 a.til, .slice aa a.all.length ca] 59) := ⟨_, rfl⟩
    have kx : Keep (At v4) w4 wx := by rw [hwx]; exact (Keep.refl _ w4).alloc _
    have hbx : Bl wx w4.heap.size 59 #[.int .i64 a.src, .int .i64 a.til, .slice aa a.all.length ca] := by rw [hwx]; exact Bl.new w4 59 _
    have hby : By (fun b => At sv b ∨ w.heap.size ≤ b) wx v4 (l ++ Lib.uvarint kn ++ Lib.uvarint (Lib.zigzag a.src) ++ Lib.uvarint (Lib.zigzag a.til)) := by rw [hwx]; exact HP4.out.1.alloc _
    have hbw : Below w0.heap.size w0 wx := (HP4.out.below HB.out HA.out).trans (by rw [hwx]; exact ((Below.refl _ w4).alloc (Nat.le_refl _) _).mono (HP4.out.below HB.out HA.out).size)
    have HC := Lib.hid (putRows_any (w0 := w0) (w := wx) hbw H1.out hby (fun b hb => by
      rcases (hby.at hb).1 with h | h
      · exact HA.out b h
      · exact Nat.le_trans HB.out.size h) (by simp only [List.length_append]; omega) (HOK.out.all k1).1 (HOK.out.all k1).2)
    have HX := Lib.hid hwx.symm
    have HKX := Lib.hid kx
    have HEQ := Lib.hid htl
    have d2 := hbx.cell 2
    simp only [List.getElem?_toArray, List.getElem?_cons_succ, List.getElem?_cons_zero] at d2
    clear htl hwx kx hbx hby hbw H1 H2
    go_upto_region 10 with fail
    rw [HX.out]
    go_wp2_with fail
    refine HC.out.mono ?_
    intro e w5 hp
    obtain ⟨v5, rfl, hpi5, -⟩ := HP4.out.put HKX.out hp
    have HP5 := Lib.hid hpi5
    clear hp hpi5 HC d2
    go_wp2_with fail
    go_ret
    rw [← HTL.out, HEQ.out]
    exact HP5.out.post
  by_cases k2 : a.kd = 2
  · rw [dyn2 k2] at hdv
    subst hdv
    have HTL : Hid (l ++ Lib.uvarint kn ++ Lib.uvarint (Lib.zigzag a.src) ++ Lib.uvarint (Lib.zigzag a.til) ++ a.tail = l ++ a.bytes) := Lib.hid (by unfold Ask.bytes; rw [HKN.out]; simp only [List.append_assoc])
    have htl : a.tail = Lib.uvarint a.mat.length ++ (a.mat.map matB).flatten := by unfold Ask.tail; rw [if_neg k1, if_pos k2]
    obtain ⟨wx, hwx⟩ : ∃ wx, wx = w4.alloc (.cells #[.int .i64 a.src, .int .i64 a.til, .slice am a.mat.length cm] 66) := ⟨_, rfl⟩
    have kx : Keep (At v4) w4 wx := by rw [hwx]; exact (Keep.refl _ w4).alloc _
    have hbx : Bl wx w4.heap.size 66 #[.int .i64 a.src, .int .i64 a.til, .slice am a.mat.length cm] := by rw [hwx]; exact Bl.new w4 66 _
    have hby : By (fun b => At sv b ∨ w.heap.size ≤ b) wx v4 (l ++ Lib.uvarint kn ++ Lib.uvarint (Lib.zigzag a.src) ++ Lib.uvarint (Lib.zigzag a.til)) := by rw [hwx]; exact HP4.out.1.alloc _
    have hbw : Below w0.heap.size w0 wx := (HP4.out.below HB.out HA.out).trans (by rw [hwx]; exact ((Below.refl _ w4).alloc (Nat.le_refl _) _).mono (HP4.out.below HB.out HA.out).size)
    have HC := Lib.hid (putMatchers_any (w0 := w0) (w := wx) hbw H2.out hby (fun b hb => by
      rcases (hby.at hb).1 with h | h
      · exact HA.out b h
      · exact Nat.le_trans HB.out.size h) (by simp only [List.length_append]; omega) (HOK.out.mat k2).1 (HOK.out.mat k2).2)
    have HX := Lib.hid hwx.symm
    have HKX := Lib.hid kx
    have HEQ := Lib.hid htl
    have d2 := hbx.cell 2
    simp only [List.getElem?_toArray, List.getElem?_cons_succ, List.getElem?_cons_zero] at d2
    clear htl hwx kx hbx hby hbw H1 H2
    go_upto_region 13 with fail
    rw [HX.out]
    go_wp2_with fail
    refine HC.out.mono ?_
    intro e w5 hp
    obtain ⟨v5, rfl, hpi5, -⟩ := HP4.out.put HKX.out hp
    have HP5 := Lib.hid hpi5
    clear hp hpi5 HC d2
    go_wp2_with fail
    go_ret
    rw [← HTL.out, HEQ.out]
    exact HP5.out.post
  · have h12 := HOK.out.kd
    have k3 : a.kd = 3 := by omega
    rw [dyn3 k3] at hdv
    subst hdv
    have HTL : Hid (l ++ Lib.uvarint kn ++ Lib.uvarint (Lib.zigzag a.src) ++ Lib.uvarint (Lib.zigzag a.til) = l ++ a.bytes) := Lib.hid (by unfold Ask.bytes; rw [HKN.out]; unfold Ask.tail; rw [if_neg k1, if_neg k2]; simp only [List.append_assoc, List.append_nil])
    clear k1 k2 k3 h12
    go_wp2_with fail
    go_ret
    rw [← HTL.out]
    exact HP4.out.post

end Go.Proofs.YtaghogfkkmphoaaDoor.E4
