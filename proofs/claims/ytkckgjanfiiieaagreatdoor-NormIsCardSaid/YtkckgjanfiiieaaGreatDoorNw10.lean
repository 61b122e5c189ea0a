/-
  THE PLAIN FORM AND THE KEY ARE THOSE THE DOCUMENT BUILDS: the law's walk.
-/
import Derived.Test.YtkckgjanfiiieaaGreatDoorPp10
import Derived.Test.YtkckgjanfiiieaaGreatDoorMakeW6
import Derived.Test.YtkckgjanfiiieaaGreatDoorQryA6
import Derived.Test.YtkckgjanfiiieaaGreatDoorRq10
import Derived.Test.YtkckgjanfiiieaaGreatDoorKy10
import Derived.Test.YtkckgjanfiiieaaGreatDoorMb7
import Derived.Test.YtkckgjanfiiieaaGreatDoorQryB6
import Derived.Test.YtkckgjanfiiieaaGreatDoorFlA
namespace Go.Proofs.YtkckgjanfiiieaaGreatDoor
open Go.RowKit Go

def wordA : Ft := .mk 3 ⟨#[]⟩ ⟨#[97]⟩ []
def hasB : Ft := .mk 4 ⟨#[]⟩ ⟨#[98]⟩ []
def nab : Ft := .mk 6 Nr.e0 Nr.e0 [.mk 7 Nr.e0 Nr.e0 [wordA, .mk 6 Nr.e0 Nr.e0 [hasB]]]
theorem nab_gd : Nr.Gd nab := by
  refine .not _ (.row 7 _ (.inl rfl) (by decide) fun x hx => ?_)
  simp only [List.mem_cons, List.not_mem_nil, or_false] at hx
  rcases hx with rfl | rfl
  · exact .leaf 3 _ _ (.inl rfl)
  · exact .not _ (.leaf 4 _ _ (.inr (.inl rfl)))
theorem nab_norm : Nr.norm nab = .mk 8 Nr.e0 Nr.e0 [.mk 6 Nr.e0 Nr.e0 [wordA], hasB] := by kernel_rfl
theorem nab_count : nab.count ≤ 40000 := by decide

set_option maxHeartbeats 4000000 in
set_option maxRecDepth 100000 in
theorem alive_any (w : World) : Calls Tryz.prog 4 #[] w fun e w' => e = .returned (.bool true) ∧ Lay w w' := by
  have hc := fun W kv hk => ownNorm_any nab_gd nab_count W kv hk
  rw [nab_norm] at hc
  have HC := Lib.hid hc
  clear hc
  simp only [show ∀ kv, nab.val kv = .agg #[.int .i64 6, .string ⟨#[]⟩, .string ⟨#[]⟩, kv] from fun _ => rfl] at HC
  go_enter Tryz.func4, Tryz.ntmps4
  go_wp2_with fail
  refine (HC.out _ (.slice (some ⟨w.heap.size + 1 + 1 + 1 + 1, 0, none⟩) 1 1) ?hk).mono ?_
  case hk =>
    unfold nab
    rw [KsAt]
    refine ⟨_, _, rfl, by simp, .inr ⟨_, _, rfl, by simp, ?_⟩⟩
    rw [KAt, KAt]
    refine ⟨⟨.slice (some ⟨w.heap.size + 1 + 1 + 1, 0, none⟩) 2 2, by go_simp; rfl, by go_simp; rfl, by go_simp; rfl, by go_simp, ?_⟩, trivial⟩
    rw [KsAt]
    refine ⟨_, _, rfl, by simp, .inr ⟨_, _, rfl, by simp, ?_⟩⟩
    rw [KAt, KAt, KAt]
    refine ⟨⟨.slice none 0 0, by go_simp; rfl, by go_simp; rfl, by go_simp; rfl, by go_simp, ?_⟩, ⟨.slice (some ⟨w.heap.size + 1 + 1, 0, none⟩) 1 1, by go_simp; rfl, by go_simp; rfl, by go_simp; rfl, by go_simp, ?_⟩, trivial⟩
    · unfold wordA
      rw [KsAt]
      exact ⟨none, 0, rfl, by simp, .inl rfl⟩
    · rw [KsAt]
      refine ⟨_, _, rfl, by simp, .inr ⟨_, _, rfl, by simp, ?_⟩⟩
      rw [KAt, KAt]
      refine ⟨⟨.slice none 0 0, by go_simp; rfl, by go_simp; rfl, by go_simp; rfl, by go_simp, ?_⟩, trivial⟩
      unfold hasB
      rw [KsAt]
      exact ⟨none, 0, rfl, by simp, .inl rfl⟩
  rintro e w1 ⟨kv, rfl, hkb, hl⟩
  obtain ⟨ak, ck, rfl⟩ := (KsB.at _ _ hkb).shape
  have hk := KsB.at _ _ hkb
  rw [KsAt] at hk
  obtain ⟨a', cap, he, hl63, h0 | ⟨bk, off, rfl, hbl, hka⟩⟩ := hk
  · cases h0
  obtain ⟨hak, hck⟩ : ak = some ⟨bk, off, none⟩ ∧ ck = cap := by simpa [Ft.kids] using he
  subst hak hck
  obtain ⟨k0, x0, x1, x2, x3, x4⟩ := KAt.get hka 0 (by simp)
  obtain ⟨k1, y0, y1, y2, y3, y4⟩ := KAt.get hka 1 (by simp)
  simp only [Nat.zero_mul, Nat.add_zero, Nat.one_mul, List.getElem_cons_zero, List.getElem_cons_succ, wordA, hasB, Ft.op] at x0 y0
  have HL := Lib.hid hl
  have hbl2 : bk < w1.heap.size := hbl
  clear hl hka x1 x2 x3 x4 y1 y2 y3 y4 he hkb hl63
  simp only [Ft.val, Ft.op, Ft.name, Ft.text, Ft.kids, List.length_cons, List.length_nil]
  go_wp2_with fail
  go_ret
  refine ⟨rfl, ?_⟩
  exact (((((((Keep.refl _ _).alloc _).alloc _).alloc _).alloc _).alloc _).trans HL.out).alloc _

end Go.Proofs.YtkckgjanfiiieaaGreatDoor

namespace Go.Proofs.YtkckgjanfiiieaaGreatDoor
open Go.RowKit Go



/-- A source that is new. -/
theorem new_source {w : World} {v : Value} {l : List Int} (h : IntsAt w v l) : Srcs ((newF w).alloc (.cells #[v, .int .i64 0] 40)) (w.heap.size + 1) v l 0 := by
  have hs := newF_size w
  have hl : Lay w ((newF w).alloc (.cells #[v, .int .i64 0] 40)) := (newF_lay w).alloc _
  have e : (newF w).heap.size = w.heap.size + 1 := hs
  refine ⟨by simp; omega, ?_, ?_, ?_, h.lay hl, fun h0 b off n c hv => ?_, Nat.zero_le _⟩
  · have := World.cell?_alloc_new (newF w) #[v, .int .i64 0] 40 0
    rw [e] at this
    exact this
  · have := World.cell?_alloc_new (newF w) #[v, .int .i64 0] 40 1
    rw [e] at this
    exact this
  · have := World.frozen?_alloc_new (newF w) #[v, .int .i64 0] 40 1
    rw [e] at this
    exact this
  · obtain ⟨a, cap, hv', _, hn | ⟨b', off', ha, hlt, _⟩⟩ := h
    · exact absurd hn h0
    · rw [hv', ha] at hv
      cases hv
      omega

/-- What the laws' filter leaves. -/
def FilterP (l : List Int) (w : World) (e : Ending) (w' : World) : Prop :=
  ∃ kv, e = .returned ((Ft.make l 4 0).1.val kv) ∧ KsB (fun b => w.heap.size ≤ b) w' kv (Ft.make l 4 0).1 ∧ Lay w w'

set_option maxHeartbeats 4000000 in
set_option maxRecDepth 100000 in
theorem law_filter (l : List Int) (w : World) (v : Value) (h : IntsAt w v l) : Calls Tryz.prog 5 #[v] w (FilterP l w) := by
  obtain ⟨a, cap, rfl, hl63, hint⟩ := id h
  obtain ⟨W, hW⟩ : ∃ W, W = (newF w).alloc (.cells #[.slice a l.length cap, .int .i64 0] 40) := ⟨_, rfl⟩
  have hsz := newF_size w
  have hlay : Lay w W := by rw [hW]; exact (newF_lay w).alloc _
  have hbx : Bx W w.heap.size (.int .i64 0) (.string ⟨#[]⟩) (.string ⟨#[]⟩) (.slice none 0 0) := by rw [hW]; exact (newF_bx w).carry (Below.heap_alloc _ _ _ (by omega))
  have hsz2 : W.heap.size = w.heap.size + 2 := by rw [hW]; simp; omega
  have hm := make_any (w.heap.size + 1) (.slice a l.length cap) l 4 (Nat.le_refl _) 0 W (by rw [hW]; exact new_source h)
  unfold MakeP at hm
  obtain ⟨X, q, hX⟩ : ∃ X q, Ft.make l 4 0 = (X, q) := ⟨_, _, rfl⟩
  unfold FilterP
  rw [hX] at hm ⊢
  have HW : Hid ((w.alloc (.cells #[.int .i64 0, .string ⟨#[]⟩, .string ⟨#[]⟩, .slice none 0 0] 26)).alloc (.cells #[.slice a l.length cap, .int .i64 0] 40) = W) := Lib.hid hW.symm
  have HM := Lib.hid hm
  have HLAY := Lib.hid hlay
  have HBX := Lib.hid hbx
  have HSZ := Lib.hid hsz2
  clear hm hlay hbx hsz2 hW hX h hint hsz
  go_enter Tryz.func5, Tryz.ntmps5
  go_wp2_with fail
  rw [HW.out]
  refine HM.out.mono ?_
  rintro e w2 ⟨kv, rfl, hkb, hsr, hkp⟩
  obtain ⟨ak, ck, rfl⟩ := (KsB.at _ _ hkb).shape
  simp only [Ft.val]
  have HX2 := Lib.hid (HBX.out.carry (hkp.block w.heap.size (by rw [HSZ.out]; omega) (by omega)))
  have HKB := Lib.hid hkb
  have HKP := Lib.hid hkp
  clear hkb hsr hkp
  obtain ⟨c0, c1, c2, c3, f0, f1, f2, f3⟩ := HX2.out
  go_wp2_with fail
  have hq := HX2.out.all (.int .i64 X.op) (.string X.name) (.string X.text) (.slice ak X.kids.length ck)
  unfold stored at hq
  obtain ⟨q0, q1, q2, q3, _, _, _, _⟩ := hq
  refine bodyPost_ret (v := .agg #[.int .i64 X.op, .string X.name, .string X.text, .slice ak X.kids.length ck]) (by simp [results, Tryz.results5, go_sem, q0, q1, q2, q3]) rfl ?_
  refine ⟨.slice ak X.kids.length ck, rfl, ?_, ?_⟩
  · exact KsB.mono (fun b _ hb => by have hb' : W.heap.size ≤ b := hb; rw [HSZ.out] at hb'; omega) _ _ (KsB.keep (G := fun b => W.heap.size ≤ b) (w' := stored w2 w.heap.size (.int .i64 X.op) (.string X.name) (.string X.text) (.slice ak X.kids.length ck)) (Nat.le_of_eq (stored_size _ _ _ _).symm) (fun b hb _ => stored_other (by have hb' : W.heap.size ≤ b := hb; rw [HSZ.out] at hb'; omega) _ _ _ _) _ _ HKB.out)
  · have hk : Lay w w2 := ⟨HKP.out.os.trans HLAY.out.os, HKP.out.tape.trans HLAY.out.tape, HKP.out.output.trans HLAY.out.output, Nat.le_trans HLAY.out.size HKP.out.size, Nat.le_trans HLAY.out.drawn HKP.out.drawn, fun b hb _ => (HKP.out.block b (Nat.lt_of_lt_of_le hb HLAY.out.size) (by omega)).trans (HLAY.out.block hb)⟩
    exact keep_stored hk (Nat.le_refl _) _ _ _ _

end Go.Proofs.YtkckgjanfiiieaaGreatDoor

namespace Go.Proofs.YtkckgjanfiiieaaGreatDoor
open Go.RowKit Go

theorem mlt_ltM : mlt = ltM := by
  funext a b
  unfold mlt ltM mtC
  by_cases h1 : a.name = b.name
  · rw [if_pos h1, h1, strC_lc.refl]
    by_cases h2 : a.not = b.not
    · rw [if_pos h2, h2, intC_lc.refl, less_strC]
      simp [orI]
    · rw [if_neg h2]
      cases ha : a.not <;> cases hb : b.not <;> simp_all [orI, intC, nt, Lib.compareInt]
  · rw [if_neg h1, less_strC]
    have h : strC a.name b.name ≠ 0 := fun e => h1 (strC_lc.eq _ _ e)
    simp [orI, h]

theorem nq_normQ (q : Qy) : nq q = normQ q := by
  unfold nq normQ normM
  rw [mlt_ltM]

/-- The document's own Plain. -/
theorem refPlain_any (q : Qy) (hw : Wr q) (w : World) (am : Option Addr) (cm : Nat) (ak : Option Addr) (ck : Nat) (hm : MsAt w (.slice am q.mat.length cm) q.mat) (hk : KsAt w (.slice ak q.fil.kids.length ck) q.fil) (hT : Tabs w) :
    Calls Tryz.prog 24 #[.agg #[.int .i64 q.src, .int .i64 q.til, .slice am q.mat.length cm, .int .i64 q.fil.op, .string q.fil.name, .string q.fil.text, .slice ak q.fil.kids.length ck, .bool q.desc, .int .i64 q.lim, .string q.page]] w fun e w' => ∃ T : ByteArray, e = .returned (.string T) ∧ T.data.toList = plainT q ∧ Below w.heap.size w w' := by
  obtain ⟨w0, hW⟩ : ∃ w0, w0 = w.alloc (.cells #[.int .i64 q.src, .int .i64 q.til, .slice am q.mat.length cm, .int .i64 q.fil.op, .string q.fil.name, .string q.fil.text, .slice ak q.fil.kids.length ck, .bool q.desc, .int .i64 q.lim, .string q.page] 30) := ⟨_, rfl⟩
  have hl0 : Lay w w0 := by rw [hW]; exact (Keep.refl _ w).alloc _
  have HB0 := Lib.hid hl0.below
  have HC0 : Hid (CB w0 w.heap.size 30 #[.int .i64 q.src, .int .i64 q.til, .slice am q.mat.length cm, .int .i64 q.fil.op, .string q.fil.name, .string q.fil.text, .slice ak q.fil.kids.length ck, .bool q.desc, .int .i64 q.lim, .string q.page]) := Lib.hid (by rw [hW]; exact CB.new w 30 _)
  have HQ := Lib.hid (textPlain_any q hw w0 am cm ak ck (hm.lay hl0) (KsAt.below hl0.below _ _ hk) (hT.next hl0.below))
  have HW := Lib.hid hW.symm
  clear hl0 hW hw hm hk hT
  have c0 := HC0.out.cell 0
  have c1 := HC0.out.cell 1
  have c2 := HC0.out.cell 2
  have c3 := HC0.out.cell 3
  have c4 := HC0.out.cell 4
  have c5 := HC0.out.cell 5
  have c6 := HC0.out.cell 6
  have c7 := HC0.out.cell 7
  have c8 := HC0.out.cell 8
  have c9 := HC0.out.cell 9
  go_enter Tryz.func24, Tryz.ntmps24
  go_upto_region 1 with fail
  rw [HW.out]
  go_wp2_with fail
  refine HQ.out.mono ?_
  rintro e w2 ⟨T, rfl, hTT, hb2⟩
  have HB2 := Lib.hid (HB0.out.trans (hb2.mono HB0.out.size))
  have HTT := Lib.hid hTT
  clear hb2 hTT HQ c0 c1 c2 c3 c4 c5 c6 c7 c8 c9
  go_wp2_with fail
  go_ret
  exact ⟨_, rfl, HTT.out, HB2.out⟩

set_option maxHeartbeats 4000000 in
set_option maxRecDepth 100000 in
/-- The document's own Key. -/
theorem refKey_any (q : Qy) (hg : Nr.Gd q.fil) (hc : q.fil.count ≤ 400) (hm : q.mat.length ≤ 900) (hn : MadeN (normQ q)) (w : World) (v : Value) (hq : QAt w v q) (hT : Tabs w) :
    Calls Tryz.prog 14 #[v] w fun e w' => e = .returned (.string (keyT q)) ∧ Below w.heap.size w w' := by
  obtain ⟨mv, kv, rfl, hmat, hks⟩ := id hq
  obtain ⟨am, cm, rfl, hm63, hmc⟩ := hmat
  obtain ⟨ak, ck, rfl⟩ := hks.shape
  have hl0 : Lay w (w.alloc (.cells #[.int .i64 q.src, .int .i64 q.til, .slice am q.mat.length cm, .int .i64 q.fil.op, .string q.fil.name, .string q.fil.text, .slice ak q.fil.kids.length ck, .bool q.desc, .int .i64 q.lim, .string q.page] 30)) := (Keep.refl _ _).alloc _
  have HQ := Lib.hid (refQuery_any q hg hc hm _ _ (hq.lay hl0))
  rw [nq_normQ] at HQ
  have HL0 := Lib.hid hl0
  have HT := Lib.hid hT
  have HN := Lib.hid hn
  clear hq hmc hks hl0 hT hn
  unfold Qy.val at HQ
  unfold Qy.val
  go_enter Tryz.func14, Tryz.ntmps14
  go_wp2_with fail
  refine HQ.out.mono ?_
  rintro e w1 ⟨vq, rfl, ⟨mv, kv, rfl, hm1, hk1⟩, hl1⟩
  obtain ⟨am1, cm1, rfl, _, _⟩ := id hm1
  obtain ⟨ak1, ck1, rfl⟩ := hk1.shape
  have HL1 := Lib.hid (Keep.trans HL0.out hl1)
  have HP := Lib.hid (refPlain_any (normQ q) HN.out.wr w1 am1 cm1 ak1 ck1 hm1 hk1 (HT.out.next (Lay.below HL1.out)))
  clear hm1 hk1 hl1 HQ
  unfold Qy.val
  go_wp2_with fail
  refine HP.out.mono ?_
  rintro e w2 ⟨TX, rfl, hTX, hb2⟩
  have HB2 := Lib.hid ((Lay.below HL1.out).trans (hb2.mono HL1.out.size))
  have hte : TX = keyT q := by
    unfold keyT
    rw [← hTX]
  subst hte
  clear hTX hb2 HP
  go_wp2_with fail
  go_ret
  exact ⟨rfl, HB2.out⟩

end Go.Proofs.YtkckgjanfiiieaaGreatDoor

namespace Go.Proofs.YtkckgjanfiiieaaGreatDoor
open Go.RowKit Go

attribute [local go_sem] Oper.semAt_some wide_fn wide_depth

/-- What the last line's operations leave in memory. -/
def ISp (f : Ft) (q : Qy) : Nat → Value → World → Prop
  | 1, v, w => FAt w v (Nr.norm f)
  | 3, v, w => FAt w v (Nr.norm f)
  | 7, v, w => QAt w v (normQ q)
  | 9, v, w => QAt w v (normQ q)
  | _, _, _ => True
theorem ISp.below {f : Ft} {q : Qy} : ∀ j v w w', ISp f q j v w → Below w.heap.size w w' → ISp f q j v w' := by
  intro j v w w' h hb
  unfold ISp at h ⊢
  split at h
  · exact h.below hb
  · exact h.below hb
  · exact h.below hb
  · exact h.below hb
  · trivial

theorem query_few (l : List Int) : (Qy.query l).mat.length ≤ 2 := by
  have h := Ft.next_lt (l := l) (n := 3) (p := (Ft.next l 20 (Ft.next l 8 (Ft.next l 2 (Ft.next l 20 0).2).2).2).2) (by decide)
  unfold Qy.query
  dsimp only
  rw [Qy.mats_length]
  omega

set_option maxHeartbeats 16000000 in
set_option maxRecDepth 100000 in
theorem is_walk (l : List Int) (u : Value) (w : World) (hu : IntsAt w u l) (hT : Tabs w) :
    Calls Tryz.prog 3 #[u] w fun e w' => e = .returned (.bool true) ∧ Below w.heap.size w w' := by
  obtain ⟨a, cap, rfl, hl63, _⟩ := id hu
  have HA := Lib.hid (alive_any w)
  have HU := Lib.hid hu
  have HT := Lib.hid hT
  clear hu hT
  by_cases hg : 300 < l.length
  · have hd : decide (300 < (l.length : Int)) = true := by simp; omega
    go_enter Tryz.func3, Tryz.ntmps3
    go_wp2_with (go_at_call 4; refine HA.out.mono ?_; rintro e w1 ⟨rfl, hl1⟩)
    go_ret
    exact ⟨rfl, hl1.below⟩
  have d0 : decide (300 < (l.length : Int)) = false := by simp; omega
  clear hg
  go_enter Tryz.func3, Tryz.ntmps3
  go_wp2_with fail
  refine HA.out.mono ?_
  rintro r w1 ⟨rfl, hl1⟩
  have HL1 := Lib.hid hl1
  have HF := Lib.hid (law_filter l w1 _ (HU.out.lay hl1))
  clear hl1 HA
  go_wp2_with fail
  refine HF.out.mono ?_
  rintro r w3 ⟨kf, rfl, hkb3, hl3⟩
  have hkf := KsB.at _ _ hkb3
  have HL3 := Lib.hid (Keep.trans HL1.out hl3)
  have HFG := Lib.hid (Nr.make_gd l 4 0)
  have HFC := Lib.hid (Ft.make_count l 4 0)
  clear hkb3 hl3 HL1
  generalize (Ft.make l 4 0).1 = f at hkf HFG HFC ⊢
  obtain ⟨af, cf, rfl⟩ := id hkf.shape
  have HKF := Lib.hid hkf
  have HQ := Lib.hid (query_any l w3 _ (HU.out.lay HL3.out))
  clear hkf HF HU
  simp only [Ft.val]
  go_wp2_with fail
  refine HQ.out.mono ?_
  rintro r w4 ⟨vq, rfl, ⟨mv, kv, rfl, hm, hk⟩, hl4⟩
  have HQG := Lib.hid (query_gd' l).1
  have HQC := Lib.hid (Qy.query_count l)
  have HQF := Lib.hid (query_few l)
  have HMN := Lib.hid (made_normQ l)
  generalize Qy.query l = q at hm hk HQG HQC HQF HMN ⊢
  obtain ⟨am, cm, rfl, hm63, _⟩ := id hm
  obtain ⟨ak, ck, rfl⟩ := hk.shape
  have hK4 : Lay w4 ((w4.alloc (.cells #[.int .i64 f.op, .string f.name, .string f.text, .slice af f.kids.length cf] 26)).alloc (.cells #[.int .i64 q.src, .int .i64 q.til, .slice am q.mat.length cm, .int .i64 q.fil.op, .string q.fil.name, .string q.fil.text, .slice ak q.fil.kids.length ck, .bool q.desc, .int .i64 q.lim, .string ⟨#[112]⟩] 30)) := ((Keep.refl _ _).alloc _).alloc _
  have hcf : CB ((w4.alloc (.cells #[.int .i64 f.op, .string f.name, .string f.text, .slice af f.kids.length cf] 26)).alloc (.cells #[.int .i64 q.src, .int .i64 q.til, .slice am q.mat.length cm, .int .i64 q.fil.op, .string q.fil.name, .string q.fil.text, .slice ak q.fil.kids.length ck, .bool q.desc, .int .i64 q.lim, .string ⟨#[112]⟩] 30)) w4.heap.size 26 #[.int .i64 f.op, .string f.name, .string f.text, .slice af f.kids.length cf] := (Below.heap_alloc _ _ _ (by simp)).trans (CB.new w4 26 _)
  have hcq : CB ((w4.alloc (.cells #[.int .i64 f.op, .string f.name, .string f.text, .slice af f.kids.length cf] 26)).alloc (.cells #[.int .i64 q.src, .int .i64 q.til, .slice am q.mat.length cm, .int .i64 q.fil.op, .string q.fil.name, .string q.fil.text, .slice ak q.fil.kids.length ck, .bool q.desc, .int .i64 q.lim, .string ⟨#[112]⟩] 30)) (w4.heap.size + 1) 30 #[.int .i64 q.src, .int .i64 q.til, .slice am q.mat.length cm, .int .i64 q.fil.op, .string q.fil.name, .string q.fil.text, .slice ak q.fil.kids.length ck, .bool q.desc, .int .i64 q.lim, .string ⟨#[112]⟩] := by
    have h := CB.new (w4.alloc (.cells #[.int .i64 f.op, .string f.name, .string f.text, .slice af f.kids.length cf] 26)) 30 #[.int .i64 q.src, .int .i64 q.til, .slice am q.mat.length cm, .int .i64 q.fil.op, .string q.fil.name, .string q.fil.text, .slice ak q.fil.kids.length ck, .bool q.desc, .int .i64 q.lim, .string ⟨#[112]⟩]
    rw [World.size_alloc] at h
    exact h
  have HCF0 := Lib.hid hcf
  have HCQ0 := Lib.hid hcq
  have HKF4 := Lib.hid (KsAt.below (Lay.below (Keep.trans hl4 hK4)) _ _ HKF.out)
  have HM4 := Lib.hid (hm.lay hK4)
  have HK4 := Lib.hid (KsAt.below (Lay.below hK4) _ _ hk)
  have HL4 := Lib.hid (Keep.trans (Keep.trans HL3.out hl4) hK4)
  clear hm hk hl4 hK4 hcf hcq HL3 HKF HQ
  simp only [Qy.val]
  go_wp2_with fail
  revert HCF0 HCQ0 HKF4 HM4 HK4 HL4
  generalize (w4.alloc (.cells #[.int .i64 f.op, .string f.name, .string f.text, .slice af f.kids.length cf] 26)).alloc (.cells #[.int .i64 q.src, .int .i64 q.til, .slice am q.mat.length cm, .int .i64 q.fil.op, .string q.fil.name, .string q.fil.text, .slice ak q.fil.kids.length ck, .bool q.desc, .int .i64 q.lim, .string ⟨#[112]⟩] 30) = w5
  generalize w4.heap.size + 1 = C
  generalize w4.heap.size = A
  intro HCF0 HCQ0 HKF4 HM4 HK4 HL4
  obtain ⟨p, hp⟩ : ∃ p : Qy, p = ⟨q.src, q.til, q.mat, q.fil, q.desc, q.lim, ⟨#[112]⟩⟩ := ⟨_, rfl⟩
  obtain ⟨vf, hvf⟩ : ∃ vf, vf = f.val (.slice af f.kids.length cf) := ⟨_, rfl⟩
  obtain ⟨vq, hvq⟩ : ∃ vq, vq = p.val (.slice am q.mat.length cm) (.slice ak q.fil.kids.length ck) := ⟨_, rfl⟩
  have hnp : normQ p = normQ q := by rw [hp]; rfl
  have hpf : p.fil = q.fil := by rw [hp]
  have hpm : p.mat = q.mat := by rw [hp]
  have hp5 : QAt w5 vq p := ⟨_, _, hvq, by rw [hpm]; exact HM4.out, by rw [hpf]; exact HK4.out⟩
  have hpg : Nr.Gd p.fil := by rw [hpf]; exact HQG.out
  have hpc : p.fil.count ≤ 64 := by rw [hpf]; exact HQC.out
  have hpl : p.mat.length ≤ 2 := by rw [hpm]; exact HQF.out
  have hmn : MadeN (normQ p) := by rw [hnp]; exact HMN.out
  have hVQ : vq = .agg #[.int .i64 q.src, .int .i64 q.til, .slice am q.mat.length cm, .int .i64 q.fil.op, .string q.fil.name, .string q.fil.text, .slice ak q.fil.kids.length ck, .bool q.desc, .int .i64 q.lim, .string ⟨#[112]⟩] := by rw [hvq, hp]; rfl
  clear hvq hp hpf hpm hnp HM4 HK4 HQG HQC HQF HMN
  have hnc : (normQ p).fil.count ≤ 100000 := by
    have := Nr.norm_count hpg
    show (Nr.norm p.fil).count ≤ 100000
    omega
  have hfc : (Nr.norm f).count ≤ 100000 := by
    have := Nr.norm_count HFG.out
    have := HFC.out
    omega
  obtain ⟨TK, hTK⟩ : ∃ TK, TK = keyT p := ⟨_, rfl⟩
  have hT5 := HT.out.next (Lay.below HL4.out)
  have hnf : ∀ W, Below w5.heap.size w5 W → Calls Tryz.prog 8 #[vf] W fun x w' => ∃ u, x = .returned u ∧ FAt w' u (Nr.norm f) ∧ Below W.heap.size W w' := fun W h => by
    rw [hvf]
    exact (ownNorm_any HFG.out (by have := HFC.out; omega) W _ (KsAt.below h _ _ HKF4.out)).mono fun x w' ⟨kv, h1, h2, h3⟩ => ⟨_, h1, ⟨_, rfl, KsB.at _ _ h2⟩, h3.below⟩
  have hrf : ∀ W, Below w5.heap.size w5 W → Calls Tryz.prog 9 #[vf] W fun x w' => ∃ u, x = .returned u ∧ FAt w' u (Nr.norm f) ∧ Below W.heap.size W w' := fun W h => by
    rw [hvf]
    exact (refFilter_any HFG.out (by have := HFC.out; omega) W _ (KsAt.below h _ _ HKF4.out)).mono fun x w' ⟨kv, h1, h2, h3⟩ => ⟨_, h1, ⟨_, rfl, KsB.at _ _ h2⟩, h3.below⟩
  have hsf : ∀ W u1 u2, Below w5.heap.size w5 W → FAt W u1 (Nr.norm f) → FAt W u2 (Nr.norm f) → Calls Tryz.prog 7 #[u1, u2] W fun x w' => x = .returned (.bool true) ∧ Below W.heap.size W w' := fun W u1 u2 _ h1 h2 =>
    (filter_any (Nr.norm f) (Nr.norm f) W u1 u2 h1 h2 hfc hfc).mono fun x w' ⟨b, hx, hb, hl⟩ => ⟨by rw [hx, hb.2 rfl], hl.below⟩
  have hnq : ∀ W, Below w5.heap.size w5 W → Calls Tryz.prog 11 #[vq] W fun x w' => ∃ u, x = .returned u ∧ QAt w' u (normQ p) ∧ Below W.heap.size W w' := fun W h =>
    (ownQ_any p hpg (by omega) (by omega) W vq (hp5.below h)).mono fun x w' ⟨u, h1, h2, h3⟩ => ⟨u, h1, h2, h3.below⟩
  have hrq : ∀ W, Below w5.heap.size w5 W → Calls Tryz.prog 12 #[vq] W fun x w' => ∃ u, x = .returned u ∧ QAt w' u (normQ p) ∧ Below W.heap.size W w' := fun W h =>
    (refQuery_any p hpg (by omega) (by omega) W vq (hp5.below h)).mono fun x w' ⟨u, h1, h2, h3⟩ => ⟨u, h1, by rw [← nq_normQ]; exact h2, h3.below⟩
  have hsq : ∀ W u1 u2, Below w5.heap.size w5 W → QAt W u1 (normQ p) → QAt W u2 (normQ p) → Calls Tryz.prog 10 #[u1, u2] W fun x w' => x = .returned (.bool true) ∧ Below W.heap.size W w' := fun W u1 u2 _ h1 h2 =>
    (same_any (normQ p) (normQ p) W u1 u2 h1 h2 hnc hnc).mono fun x w' ⟨b, hx, hb, hl⟩ => ⟨by rw [hx, hb.2 rfl], hl.below⟩
  have hnk : ∀ W, Below w5.heap.size w5 W → Calls Tryz.prog 13 #[vq] W fun x w' => x = .returned (.string TK) ∧ Below W.heap.size W w' := fun W h => by
    rw [hTK]
    exact ownKey_any p hpg (by omega) (by omega) hmn W vq (hp5.below h) (hT5.next h)
  have hrk : ∀ W, Below w5.heap.size w5 W → Calls Tryz.prog 14 #[vq] W fun x w' => x = .returned (.string TK) ∧ Below W.heap.size W w' := fun W h => by
    rw [hTK]
    exact refKey_any p hpg (by omega) (by omega) hmn W vq (hp5.below h) (hT5.next h)
  have hcf : ∀ W, Below w5.heap.size w5 W → CB W A 26 #[.int .i64 f.op, .string f.name, .string f.text, .slice af f.kids.length cf] := fun W h => (h.block _ HCF0.out.lt).trans HCF0.out
  have hcq : ∀ W, Below w5.heap.size w5 W → CB W C 30 #[.int .i64 q.src, .int .i64 q.til, .slice am q.mat.length cm, .int .i64 q.fil.op, .string q.fil.name, .string q.fil.text, .slice ak q.fil.kids.length ck, .bool q.desc, .int .i64 q.lim, .string ⟨#[112]⟩] := fun W h => (h.block _ HCQ0.out.lt).trans HCQ0.out
  have HNF := Lib.hid hnf
  have HRF := Lib.hid hrf
  have HSF := Lib.hid hsf
  have HNQ := Lib.hid hnq
  have HRQ := Lib.hid hrq
  have HSQ := Lib.hid hsq
  have HNK := Lib.hid hnk
  have HRK := Lib.hid hrk
  have HCF := Lib.hid hcf
  have HCQ := Lib.hid hcq
  have HVF : Hid (vf = .agg #[.int .i64 f.op, .string f.name, .string f.text, .slice af f.kids.length cf]) := Lib.hid hvf
  have HVQ := Lib.hid hVQ
  clear hnf hrf hsf hnq hrq hsq hnk hrk hcf hcq hvf hVQ hp5 hpg hpc hpl hmn hnc hfc hTK hT5 HCF0 HCQ0 HKF4 HFG HFC HT
  refine (wpIn_wide (n := 9)).1 ?_
  refine wpIn_region_flow (fun _ => trivial) (by kernel_rfl) (fun _ _ w' => Below w5.heap.size w5 w') (fun _ _ u1 u2 => Below u1.heap.size u1 u2) (GV [some (vf), none, some (vf), none, some (.bool true), some (.bool true), some (vq), none, some (vq), none, some (.bool true), some (.bool true), some (.bool true), some (vq), some (.string TK), some (vq), some (.string TK), some (.bool true), some (.bool true), some (.bool true)] [1, 3, 7, 9] (ISp f p)) (fun j => j == 19) (by kernel_rfl) (by kernel_rfl) (fun i j ys v u1 u2 hij _ _ hV hR => GV.keep ISp.below hij hV hR) ((Below.refl _ w5).drew) ?step ?fin
  case step =>
    refine ⟨?_, ?_, ?_, ?_, ?_, ?_, ?_, ?_, ?_, ?_, ?_, ?_, ?_, ?_, ?_, ?_, ?_, ?_, ?_, ?_, trivial⟩
    · intro listed ys X W hsz hsd hi2 hall hX hI hd K hK
      have e3 : X.tmps.getD 3 undef = .pointer (some ⟨A, 0, none⟩) := hX 3 (Nat.le_of_ble_eq_true rfl)
      have c0 := CB.cell (HCF.out W hI) 0
      have c1 := CB.cell (HCF.out W hI) 1
      have c2 := CB.cell (HCF.out W hI) 2
      have c3 := CB.cell (HCF.out W hI) 3
      simp only [List.getElem?_toArray, List.getElem?_cons_succ, List.getElem?_cons_zero] at c0 c1 c2 c3
      have HI := Lib.hid hI
      refine step_run (.inl rfl) ?_
      clear hX hd hI
      go_simp
      exact hK _ _ HI.out (Below.refl _ _) (GV.of (by decide) (fun u h => by cases h; exact HVF.out))
    · intro listed ys X W hsz hsd hi2 hall hX hI hd K hK
      have e15 : X.tmps.getD 15 undef = vf := (hX 15 (Nat.le_of_ble_eq_true rfl)).trans (GV.val (hd ⟨0, .data⟩ (by simp) rfl) (by decide) rfl)
      have HI := Lib.hid hI
      refine step_run (.inl rfl) ?_
      clear hX hd hI
      go_simp
      refine (callsIn_wide.2 (HNF.out W HI.out)).mono ?_
      rintro e u2 ⟨u, rfl, hu, hb⟩
      exact hK _ _ (HI.out.trans (hb.mono HI.out.size)) hb (GV.ofsp (by decide) hu)
    · intro listed ys X W hsz hsd hi2 hall hX hI hd K hK
      have e3 : X.tmps.getD 3 undef = .pointer (some ⟨A, 0, none⟩) := hX 3 (Nat.le_of_ble_eq_true rfl)
      have c0 := CB.cell (HCF.out W hI) 0
      have c1 := CB.cell (HCF.out W hI) 1
      have c2 := CB.cell (HCF.out W hI) 2
      have c3 := CB.cell (HCF.out W hI) 3
      simp only [List.getElem?_toArray, List.getElem?_cons_succ, List.getElem?_cons_zero] at c0 c1 c2 c3
      have HI := Lib.hid hI
      refine step_run (.inl rfl) ?_
      clear hX hd hI
      go_simp
      exact hK _ _ HI.out (Below.refl _ _) (GV.of (by decide) (fun u h => by cases h; exact HVF.out))
    · intro listed ys X W hsz hsd hi2 hall hX hI hd K hK
      have e17 : X.tmps.getD 17 undef = vf := (hX 17 (Nat.le_of_ble_eq_true rfl)).trans (GV.val (hd ⟨2, .data⟩ (by simp) rfl) (by decide) rfl)
      have HI := Lib.hid hI
      refine step_run (.inl rfl) ?_
      clear hX hd hI
      go_simp
      refine (callsIn_wide.2 (HRF.out W HI.out)).mono ?_
      rintro e u2 ⟨u, rfl, hu, hb⟩
      exact hK _ _ (HI.out.trans (hb.mono HI.out.size)) hb (GV.ofsp (by decide) hu)
    · intro listed ys X W hsz hsd hi2 hall hX hI hd K hK
      have e16 : X.tmps.getD 16 undef = ys 1 := hX 16 (Nat.le_of_ble_eq_true rfl)
      have HY1 := Lib.hid (show FAt W (ys 1) (Nr.norm f) from GV.sp (hd ⟨1, .data⟩ (by simp) rfl) (by decide))
      have e18 : X.tmps.getD 18 undef = ys 3 := hX 18 (Nat.le_of_ble_eq_true rfl)
      have HY3 := Lib.hid (show FAt W (ys 3) (Nr.norm f) from GV.sp (hd ⟨3, .data⟩ (by simp) rfl) (by decide))
      have HI := Lib.hid hI
      refine step_run (.inl rfl) ?_
      clear hX hd hI
      go_simp
      refine (callsIn_wide.2 (HSF.out W _ _ HI.out HY1.out HY3.out)).mono ?_
      rintro e u2 ⟨rfl, hb⟩
      exact hK _ _ (HI.out.trans (hb.mono HI.out.size)) hb (GV.of (by decide) (fun u h => by cases h; rfl))
    · intro listed ys X W hsz hsd hi2 hall hX hI hd K hK
      have e19 : X.tmps.getD 19 undef = .bool true := (hX 19 (Nat.le_of_ble_eq_true rfl)).trans (GV.val (hd ⟨4, .data⟩ (by simp) rfl) (by decide) rfl)
      have HI := Lib.hid hI
      refine step_run (.inl rfl) ?_
      clear hX hd hI
      go_simp
      exact hK _ _ HI.out (Below.refl _ _) (GV.of (by decide) (fun u h => by cases h; rfl))
    · intro listed ys X W hsz hsd hi2 hall hX hI hd K hK
      have eg : X.tmps.getD 20 undef = .bool true := (hX 20 (Nat.le_of_ble_eq_true rfl)).trans (GV.val (hd ⟨5, .guard⟩ (by simp) rfl) (by decide) rfl)
      have e4 : X.tmps.getD 4 undef = .pointer (some ⟨C, 0, none⟩) := hX 4 (Nat.le_of_ble_eq_true rfl)
      have c0 := CB.cell (HCQ.out W hI) 0
      have c1 := CB.cell (HCQ.out W hI) 1
      have c2 := CB.cell (HCQ.out W hI) 2
      have c3 := CB.cell (HCQ.out W hI) 3
      have c4 := CB.cell (HCQ.out W hI) 4
      have c5 := CB.cell (HCQ.out W hI) 5
      have c6 := CB.cell (HCQ.out W hI) 6
      have c7 := CB.cell (HCQ.out W hI) 7
      have c8 := CB.cell (HCQ.out W hI) 8
      have c9 := CB.cell (HCQ.out W hI) 9
      simp only [List.getElem?_toArray, List.getElem?_cons_succ, List.getElem?_cons_zero] at c0 c1 c2 c3 c4 c5 c6 c7 c8 c9
      have HI := Lib.hid hI
      refine step_run (.inr ⟨5, 20, true, rfl, rfl, eg⟩) ?_
      clear hX hd hI
      go_simp
      exact hK _ _ HI.out (Below.refl _ _) (GV.of (by decide) (fun u h => by cases h; exact HVQ.out))
    · intro listed ys X W hsz hsd hi2 hall hX hI hd K hK
      have eg : X.tmps.getD 20 undef = .bool true := (hX 20 (Nat.le_of_ble_eq_true rfl)).trans (GV.val (hd ⟨5, .guard⟩ (by simp) rfl) (by decide) rfl)
      have e21 : X.tmps.getD 21 undef = vq := (hX 21 (Nat.le_of_ble_eq_true rfl)).trans (GV.val (hd ⟨6, .data⟩ (by simp) rfl) (by decide) rfl)
      have HI := Lib.hid hI
      refine step_run (.inr ⟨5, 20, true, rfl, rfl, eg⟩) ?_
      clear hX hd hI
      go_simp
      refine (callsIn_wide.2 (HNQ.out W HI.out)).mono ?_
      rintro e u2 ⟨u, rfl, hu, hb⟩
      exact hK _ _ (HI.out.trans (hb.mono HI.out.size)) hb (GV.ofsp (by decide) hu)
    · intro listed ys X W hsz hsd hi2 hall hX hI hd K hK
      have eg : X.tmps.getD 20 undef = .bool true := (hX 20 (Nat.le_of_ble_eq_true rfl)).trans (GV.val (hd ⟨5, .guard⟩ (by simp) rfl) (by decide) rfl)
      have e4 : X.tmps.getD 4 undef = .pointer (some ⟨C, 0, none⟩) := hX 4 (Nat.le_of_ble_eq_true rfl)
      have c0 := CB.cell (HCQ.out W hI) 0
      have c1 := CB.cell (HCQ.out W hI) 1
      have c2 := CB.cell (HCQ.out W hI) 2
      have c3 := CB.cell (HCQ.out W hI) 3
      have c4 := CB.cell (HCQ.out W hI) 4
      have c5 := CB.cell (HCQ.out W hI) 5
      have c6 := CB.cell (HCQ.out W hI) 6
      have c7 := CB.cell (HCQ.out W hI) 7
      have c8 := CB.cell (HCQ.out W hI) 8
      have c9 := CB.cell (HCQ.out W hI) 9
      simp only [List.getElem?_toArray, List.getElem?_cons_succ, List.getElem?_cons_zero] at c0 c1 c2 c3 c4 c5 c6 c7 c8 c9
      have HI := Lib.hid hI
      refine step_run (.inr ⟨5, 20, true, rfl, rfl, eg⟩) ?_
      clear hX hd hI
      go_simp
      exact hK _ _ HI.out (Below.refl _ _) (GV.of (by decide) (fun u h => by cases h; exact HVQ.out))
    · intro listed ys X W hsz hsd hi2 hall hX hI hd K hK
      have eg : X.tmps.getD 20 undef = .bool true := (hX 20 (Nat.le_of_ble_eq_true rfl)).trans (GV.val (hd ⟨5, .guard⟩ (by simp) rfl) (by decide) rfl)
      have e23 : X.tmps.getD 23 undef = vq := (hX 23 (Nat.le_of_ble_eq_true rfl)).trans (GV.val (hd ⟨8, .data⟩ (by simp) rfl) (by decide) rfl)
      have HI := Lib.hid hI
      refine step_run (.inr ⟨5, 20, true, rfl, rfl, eg⟩) ?_
      clear hX hd hI
      go_simp
      refine (callsIn_wide.2 (HRQ.out W HI.out)).mono ?_
      rintro e u2 ⟨u, rfl, hu, hb⟩
      exact hK _ _ (HI.out.trans (hb.mono HI.out.size)) hb (GV.ofsp (by decide) hu)
    · intro listed ys X W hsz hsd hi2 hall hX hI hd K hK
      have eg : X.tmps.getD 20 undef = .bool true := (hX 20 (Nat.le_of_ble_eq_true rfl)).trans (GV.val (hd ⟨5, .guard⟩ (by simp) rfl) (by decide) rfl)
      have e22 : X.tmps.getD 22 undef = ys 7 := hX 22 (Nat.le_of_ble_eq_true rfl)
      have HY7 := Lib.hid (show QAt W (ys 7) (normQ p) from GV.sp (hd ⟨7, .data⟩ (by simp) rfl) (by decide))
      have e24 : X.tmps.getD 24 undef = ys 9 := hX 24 (Nat.le_of_ble_eq_true rfl)
      have HY9 := Lib.hid (show QAt W (ys 9) (normQ p) from GV.sp (hd ⟨9, .data⟩ (by simp) rfl) (by decide))
      have HI := Lib.hid hI
      refine step_run (.inr ⟨5, 20, true, rfl, rfl, eg⟩) ?_
      clear hX hd hI
      go_simp
      refine (callsIn_wide.2 (HSQ.out W _ _ HI.out HY7.out HY9.out)).mono ?_
      rintro e u2 ⟨rfl, hb⟩
      exact hK _ _ (HI.out.trans (hb.mono HI.out.size)) hb (GV.of (by decide) (fun u h => by cases h; rfl))
    · intro listed ys X W hsz hsd hi2 hall hX hI hd K hK
      have e20 : X.tmps.getD 20 undef = .bool true := (hX 20 (Nat.le_of_ble_eq_true rfl)).trans (GV.val (hd ⟨5, .data⟩ (by simp) rfl) (by decide) rfl)
      have e25 : X.tmps.getD 25 undef = .bool true := (hX 25 (Nat.le_of_ble_eq_true rfl)).trans (GV.val (hd ⟨10, .data⟩ (by simp) rfl) (by decide) rfl)
      have HI := Lib.hid hI
      refine step_run (.inl rfl) ?_
      clear hX hd hI
      go_simp
      exact hK _ _ HI.out (Below.refl _ _) (GV.of (by decide) (fun u h => by cases h; rfl))
    · intro listed ys X W hsz hsd hi2 hall hX hI hd K hK
      have e26 : X.tmps.getD 26 undef = .bool true := (hX 26 (Nat.le_of_ble_eq_true rfl)).trans (GV.val (hd ⟨11, .data⟩ (by simp) rfl) (by decide) rfl)
      have HI := Lib.hid hI
      refine step_run (.inl rfl) ?_
      clear hX hd hI
      go_simp
      exact hK _ _ HI.out (Below.refl _ _) (GV.of (by decide) (fun u h => by cases h; rfl))
    · intro listed ys X W hsz hsd hi2 hall hX hI hd K hK
      have eg : X.tmps.getD 27 undef = .bool true := (hX 27 (Nat.le_of_ble_eq_true rfl)).trans (GV.val (hd ⟨12, .guard⟩ (by simp) rfl) (by decide) rfl)
      have e4 : X.tmps.getD 4 undef = .pointer (some ⟨C, 0, none⟩) := hX 4 (Nat.le_of_ble_eq_true rfl)
      have c0 := CB.cell (HCQ.out W hI) 0
      have c1 := CB.cell (HCQ.out W hI) 1
      have c2 := CB.cell (HCQ.out W hI) 2
      have c3 := CB.cell (HCQ.out W hI) 3
      have c4 := CB.cell (HCQ.out W hI) 4
      have c5 := CB.cell (HCQ.out W hI) 5
      have c6 := CB.cell (HCQ.out W hI) 6
      have c7 := CB.cell (HCQ.out W hI) 7
      have c8 := CB.cell (HCQ.out W hI) 8
      have c9 := CB.cell (HCQ.out W hI) 9
      simp only [List.getElem?_toArray, List.getElem?_cons_succ, List.getElem?_cons_zero] at c0 c1 c2 c3 c4 c5 c6 c7 c8 c9
      have HI := Lib.hid hI
      refine step_run (.inr ⟨12, 27, true, rfl, rfl, eg⟩) ?_
      clear hX hd hI
      go_simp
      exact hK _ _ HI.out (Below.refl _ _) (GV.of (by decide) (fun u h => by cases h; exact HVQ.out))
    · intro listed ys X W hsz hsd hi2 hall hX hI hd K hK
      have eg : X.tmps.getD 27 undef = .bool true := (hX 27 (Nat.le_of_ble_eq_true rfl)).trans (GV.val (hd ⟨12, .guard⟩ (by simp) rfl) (by decide) rfl)
      have e28 : X.tmps.getD 28 undef = vq := (hX 28 (Nat.le_of_ble_eq_true rfl)).trans (GV.val (hd ⟨13, .data⟩ (by simp) rfl) (by decide) rfl)
      have HI := Lib.hid hI
      refine step_run (.inr ⟨12, 27, true, rfl, rfl, eg⟩) ?_
      clear hX hd hI
      go_simp
      refine (callsIn_wide.2 (HNK.out W HI.out)).mono ?_
      rintro e u2 ⟨rfl, hb⟩
      exact hK _ _ (HI.out.trans (hb.mono HI.out.size)) hb (GV.of (by decide) (fun u h => by cases h; rfl))
    · intro listed ys X W hsz hsd hi2 hall hX hI hd K hK
      have eg : X.tmps.getD 27 undef = .bool true := (hX 27 (Nat.le_of_ble_eq_true rfl)).trans (GV.val (hd ⟨12, .guard⟩ (by simp) rfl) (by decide) rfl)
      have e4 : X.tmps.getD 4 undef = .pointer (some ⟨C, 0, none⟩) := hX 4 (Nat.le_of_ble_eq_true rfl)
      have c0 := CB.cell (HCQ.out W hI) 0
      have c1 := CB.cell (HCQ.out W hI) 1
      have c2 := CB.cell (HCQ.out W hI) 2
      have c3 := CB.cell (HCQ.out W hI) 3
      have c4 := CB.cell (HCQ.out W hI) 4
      have c5 := CB.cell (HCQ.out W hI) 5
      have c6 := CB.cell (HCQ.out W hI) 6
      have c7 := CB.cell (HCQ.out W hI) 7
      have c8 := CB.cell (HCQ.out W hI) 8
      have c9 := CB.cell (HCQ.out W hI) 9
      simp only [List.getElem?_toArray, List.getElem?_cons_succ, List.getElem?_cons_zero] at c0 c1 c2 c3 c4 c5 c6 c7 c8 c9
      have HI := Lib.hid hI
      refine step_run (.inr ⟨12, 27, true, rfl, rfl, eg⟩) ?_
      clear hX hd hI
      go_simp
      exact hK _ _ HI.out (Below.refl _ _) (GV.of (by decide) (fun u h => by cases h; exact HVQ.out))
    · intro listed ys X W hsz hsd hi2 hall hX hI hd K hK
      have eg : X.tmps.getD 27 undef = .bool true := (hX 27 (Nat.le_of_ble_eq_true rfl)).trans (GV.val (hd ⟨12, .guard⟩ (by simp) rfl) (by decide) rfl)
      have e30 : X.tmps.getD 30 undef = vq := (hX 30 (Nat.le_of_ble_eq_true rfl)).trans (GV.val (hd ⟨15, .data⟩ (by simp) rfl) (by decide) rfl)
      have HI := Lib.hid hI
      refine step_run (.inr ⟨12, 27, true, rfl, rfl, eg⟩) ?_
      clear hX hd hI
      go_simp
      refine (callsIn_wide.2 (HRK.out W HI.out)).mono ?_
      rintro e u2 ⟨rfl, hb⟩
      exact hK _ _ (HI.out.trans (hb.mono HI.out.size)) hb (GV.of (by decide) (fun u h => by cases h; rfl))
    · intro listed ys X W hsz hsd hi2 hall hX hI hd K hK
      have eg : X.tmps.getD 27 undef = .bool true := (hX 27 (Nat.le_of_ble_eq_true rfl)).trans (GV.val (hd ⟨12, .guard⟩ (by simp) rfl) (by decide) rfl)
      have e29 : X.tmps.getD 29 undef = .string TK := (hX 29 (Nat.le_of_ble_eq_true rfl)).trans (GV.val (hd ⟨14, .data⟩ (by simp) rfl) (by decide) rfl)
      have e31 : X.tmps.getD 31 undef = .string TK := (hX 31 (Nat.le_of_ble_eq_true rfl)).trans (GV.val (hd ⟨16, .data⟩ (by simp) rfl) (by decide) rfl)
      have HI := Lib.hid hI
      refine step_run (.inr ⟨12, 27, true, rfl, rfl, eg⟩) ?_
      clear hX hd hI
      go_simp
      exact hK _ _ HI.out (Below.refl _ _) (GV.of (by decide) (fun u h => by cases h; simp))
    · intro listed ys X W hsz hsd hi2 hall hX hI hd K hK
      have e27 : X.tmps.getD 27 undef = .bool true := (hX 27 (Nat.le_of_ble_eq_true rfl)).trans (GV.val (hd ⟨12, .data⟩ (by simp) rfl) (by decide) rfl)
      have e32 : X.tmps.getD 32 undef = .bool true := (hX 32 (Nat.le_of_ble_eq_true rfl)).trans (GV.val (hd ⟨17, .data⟩ (by simp) rfl) (by decide) rfl)
      have HI := Lib.hid hI
      refine step_run (.inl rfl) ?_
      clear hX hd hI
      go_simp
      exact hK _ _ HI.out (Below.refl _ _) (GV.of (by decide) (fun u h => by cases h; rfl))
    · intro listed ys X W hsz hsd hi2 hall hX hI hd K hK
      have e33 : X.tmps.getD 33 undef = .bool true := (hX 33 (Nat.le_of_ble_eq_true rfl)).trans (GV.val (hd ⟨18, .data⟩ (by simp) rfl) (by decide) rfl)
      have HI := Lib.hid hI
      refine step_run (.inl rfl) ?_
      clear hX hd hI
      go_simp
      exact hK _ _ HI.out (Below.refl _ _) (GV.of (by decide) (fun u h => by cases h; rfl))
  case fin =>
    intro listed ys w6 hall hI hV
    have hy := GV.val (hV 19 (by decide) rfl) (by decide) rfl
    have HB6 := Lib.hid ((Lay.below HL4.out).trans (hI.mono HL4.out.size))
    clear hall hI hV
    refine fin_of 2 (v := .bool true) ?_ (by simp) hy
    intro P6 h6 hdf
    have x6 : P6.tmps[2]?.getD undef = .bool true := by rw [← Array.getD_eq_getD_getElem?]; exact h6
    go_wp2_with fail
    refine bodyPost_ret (v := .bool true) (by simp [results, Tryz.results3, go_sem, x6]) hdf ⟨rfl, HB6.out⟩

end Go.Proofs.YtkckgjanfiiieaaGreatDoor
