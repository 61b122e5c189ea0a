/-
  ScanOrder: IN WHICH ORDER ENTRIES ARE ADDED PLAYS NO PART.
-/
import Derived.Test.YtdjddlebjbngfaaGreatDoorFk15
import Derived.Test.YtdjddlebjbngfaaGreatDoorEr
import Derived.Test.YtdjddlebjbngfaaGreatDoorOp13
namespace Go.Proofs.YtdjddlebjbngfaaGreatDoor.E4
open Go.RowKit Go
open Go.Sort (grow)

theorem src_of_ents {G L : Nat → Prop} {w : World} {v : Value} {es : List Ent} (h : EntsAt G L w v es) : ∃ R, R.map Prod.snd = es ∧ RawL L w R ∧ ∀ w1, Below w.heap.size w w1 → Src Tryz.prog 3 22 v es.length (flatR R) w1 := by
  obtain ⟨a, cap, rfl, hn, hc⟩ := id h
  by_cases h0 : es = []
  · subst h0
    refine ⟨[], rfl, fun x hx => by simp at hx, fun w1 _ => ?_⟩
    cases a with
    | none => exact Src.ofNil _ Tryz.underlying22 cap
    | some p => exact Src.ofSlice _ Tryz.underlying22 p 0 cap [] rfl (fun j u hu => by simp at hu) (fun u hu => by simp at hu)
  · obtain ⟨b, off, R, rfl, hnR, hR, hg, hb, hraw, hL⟩ := h.raw h0
    exact ⟨R, hR, hL, fun w1 hl => by
      rw [hnR]
      exact RawAt.src (fun i hi => by
        obtain ⟨q0, q1, q2⟩ := hraw i hi
        exact ⟨(hl.cell hb).trans q0, (hl.cell hb).trans q1, (hl.cell hb).trans q2⟩) (hL.below1 hl) cap⟩

theorem GV.still {cs : List (Option Value)} {S : List Nat} {sp : Nat → Value → World → Prop} {i j : Nat} {ys : Nat → Value} {v : Value} {w w' : World} (hj : j ∈ S) (hij : i ≠ j) (h : GV cs S sp j ys w) (hs : sp j (ys j) w → sp j (ys j) w') : GV cs S sp j (H3.upd ys i v) w' := by
  unfold GV at h ⊢
  rw [if_pos hj] at h ⊢
  rw [H3.upd_other ys v (Ne.symm hij)]
  exact hs h

/-- What the operations that turn the row leave. -/
def OZ (W0 : World) (n1 n n2 : Nat) (R1 R R2 : List (Value × Ent)) : Nat → Value → World → Prop
  | 0, v, w => Rk 3 (fun b => W0.heap.size ≤ b) w v 0 []
  | 3, v, _ => ∀ w1, Below W0.heap.size W0 w1 → Src Tryz.prog 3 22 v n1 (flatR R1) w1
  | 4, v, w => Rk 3 (fun b => W0.heap.size ≤ b) w v n1 (flatR R1)
  | 6, v, w => Rk 3 (fun b => W0.heap.size ≤ b) w v (n1 + n) (flatR R1 ++ flatR R)
  | 9, v, _ => ∀ w1, Below W0.heap.size W0 w1 → Src Tryz.prog 3 22 v n2 (flatR R2) w1
  | 10, v, w => Rk 3 (fun b => W0.heap.size ≤ b) w v (n1 + n + n2) (flatR R1 ++ flatR R ++ flatR R2)
  | 11, v, w => Rk 3 (fun b => W0.heap.size ≤ b) w v (n1 + n + n2) (flatR R1 ++ flatR R ++ flatR R2)
  | _, _, _ => True
theorem OZ.below {W0 : World} {n1 n n2 : Nat} {R1 R R2 : List (Value × Ent)} {j : Nat} {v : Value} {w w' : World} (h : OZ W0 n1 n n2 R1 R R2 j v w) (hb : Below w.heap.size w w') : OZ W0 n1 n n2 R1 R R2 j v w' := by
  unfold OZ at h ⊢
  split at h
  · exact Rk.below1 h hb
  · exact h
  · exact Rk.below1 h hb
  · exact Rk.below1 h hb
  · exact h
  · exact Rk.below1 h hb
  · exact Rk.below1 h hb
  · trivial

theorem ents_from {G L : Nat → Prop} {w : World} {ae : Option Addr} {ce : Nat} {es : List Ent} (h : EntsAt G L w (.slice ae es.length ce) es) (q : Nat) (hq : q ≤ es.length) (hc : es.length ≤ ce) : EntsAt G L w (.slice (if ce = q then ae else ae.map fun x => x.add (q * 3)) (es.length - q) (ce - q)) (es.drop q) := by
  by_cases hqn : q = es.length
  · subst hqn
    rw [List.drop_length, Nat.sub_self]
    exact ⟨_, _, rfl, by simp, .inl rfl⟩
  · have hne : es ≠ [] := fun e => by rw [e] at hq hqn; simp at hq; exact hqn hq
    obtain ⟨b, off, R, rfl, _⟩ := h.raw hne
    rw [if_neg (by omega)]
    have e : (Option.map (fun x => x.add (q * 3)) (some (⟨b, off, none⟩ : Addr))) = some ⟨b, off + q * 3, none⟩ := by simp [Addr.add]
    rw [e]
    exact h.drop q _

set_option maxHeartbeats 8000000 in
set_option maxRecDepth 100000 in
theorem order_walk15 {G L : Nat → Prop} {w : World} {v av mv : Value} {es : List Ent} {a : Ask} {desc : Bool} {n : Int} (h : EntsAt G L w v es) (h1 : TextsAt w av a.all) (h2 : MsAt w mv a.mat) (hwf : ∀ e ∈ es, e.Wf) (hT : MaxI w) (hso : SlOK v) :
    Calls Tryz.prog 5 #[v, .agg (a.cells av mv), .int .i64 n, .bool desc] w fun x w' => x = .returned (.bool true) ∧ Below w.heap.size w w' := by
  obtain ⟨i24, z24, E24⟩ := elem24
  have hmx : Tryz.prog.follows .mixedOrders = true := by kernel_rfl
  obtain ⟨ae, ce, rfl, he63, _⟩ := id h
  obtain ⟨aa, ca, rfl, ha63, _⟩ := id h1
  obtain ⟨am, cm, rfl, hm6, _⟩ := id h2
  have hq : AskAt w (.agg (a.cells (.slice aa a.all.length ca) (.slice am a.mat.length cm))) a := ⟨_, _, rfl, h1, h2⟩
  obtain ⟨w2, hw2⟩ : ∃ w2, w2 = w.alloc (.cells #[.int .i64 a.kd, .int .i64 a.src, .int .i64 a.til, .slice aa a.all.length ca, .slice am a.mat.length cm] 26) := ⟨_, rfl⟩
  have hb2 : Below w.heap.size w w2 := by rw [hw2]; exact (Below.refl _ w).alloc (Nat.le_refl _) _
  have hka : Bl w2 w.heap.size 26 #[.int .i64 a.kd, .int .i64 a.src, .int .i64 a.til, .slice aa a.all.length ca, .slice am a.mat.length cm] := by rw [hw2]; exact Bl.new w 26 _
  have HW2 := Lib.hid hw2.symm
  have HAL := Lib.hid (alive_any w2 (MaxI.below1 hT hb2))
  have HANY := Lib.hid (fun W => anyOf_any a (.slice aa a.all.length ca) (.slice am a.mat.length cm) W ⟨_, _, _, rfl⟩ ⟨_, _, _, rfl⟩)
  have HH := Lib.hid h
  have HH1 := Lib.hid h1
  have HH2 := Lib.hid h2
  have HQ := Lib.hid hq
  have HWF := Lib.hid hwf
  have HT := Lib.hid hT
  have HB2 := Lib.hid hb2
  have HKA := Lib.hid hka
  obtain ⟨dv, hdv⟩ : ∃ dv, dv = a.dyn (.slice aa a.all.length ca) (.slice am a.mat.length cm) := ⟨_, rfl⟩
  rw [← hdv] at HANY
  have HDV := Lib.hid hdv
  simp only [Ask.cells] at HANY HQ ⊢
  have hce : es.length ≤ ce := by
    rcases hso with hv | ⟨p, n', c', hv, hle⟩
    · simp only [Value.slice.injEq] at hv
      omega
    · simp only [Value.slice.injEq] at hv
      omega
  have HNC := Lib.hid hce
  have HGR := Lib.hid fun (W : World) (hW : Below w2.heap.size w2 W) => lawGreat_any (has := false) (m := ⟨0, [], ⟨#[]⟩⟩) (ml := .slice none 0 0) (HH.out.below1 (below_mid HB2.out hW)) (HQ.out.below (below_mid HB2.out hW)) (LabsAt.nil _ _)
  simp only [mkV] at HGR
  clear h h1 h2 hq hwf hT hw2 hb2 hka hdv hso hce
  go_enter Tryz.func5, Tryz.ntmps5
  go_upto_region 1 with fail
  rw [HW2.out]
  go_upto_region 3 with (go_at_call 7; refine HAL.out.mono ?_; rintro x w3 ⟨rfl, hb3⟩)
  have HB23 := Lib.hid hb3
  have HB3 := Lib.hid (below_mid HB2.out hb3)
  have HGR3 := Lib.hid (HGR.out w3 hb3)
  have hka := HKA.out.below hb3
  have c0 := hka.cell 0
  have c1 := hka.cell 1
  have c2 := hka.cell 2
  have c3 := hka.cell 3
  have c4 := hka.cell 4
  simp only [List.getElem?_toArray, List.getElem?_cons_succ, List.getElem?_cons_zero] at c0 c1 c2 c3 c4
  clear hka hb3 HAL HGR
  cases hbig : bigF es a ⟨0, [], ⟨#[]⟩⟩ with
  | true =>
    rw [hbig] at HGR3
    go_wp2_with (go_at_call 8; refine HGR3.out.mono ?_; rintro x w4 ⟨rfl, hb4⟩)
    go_ret
    exact ⟨rfl, below_mid HB3.out hb4⟩
  | false =>
    rw [hbig] at HGR3
    have HBG := Lib.hid (bigF_no hbig)
    clear hbig
    go_wp2_with fail
    refine HGR3.out.mono ?_
    rintro x w4 ⟨rfl, hb4⟩
    have HB24 := Lib.hid (below_mid HB23.out hb4)
    have HB4 := Lib.hid (below_mid HB3.out hb4)
    clear hb4 HGR3 c0 c1 c2 c3 c4
    by_cases hlo : n < 0
    · go_wp2_with fail
      go_ret
      exact ⟨rfl, HB4.out⟩
    by_cases hhi : (es.length : Int) < n
    · go_wp2_with fail
      go_ret
      exact ⟨rfl, HB4.out⟩
    obtain ⟨q, rfl⟩ : ∃ q : Nat, n = q := ⟨n.toNat, by omega⟩
    have HQL : Hid (q ≤ es.length) := Lib.hid (by omega)
    have HN : Hid (es.length ≤ 60) := Lib.hid HBG.out.1
    have hdr : Below w4.heap.size w4 w4.drew := lay_below ((Keep.refl (fun _ => False) w4).drew)
    have hent : EntsAt (fun b => b < w4.drew.heap.size) (fun b => b < w4.drew.heap.size) w4.drew (.slice ae es.length ce) es := (HH.out.below1 (below_mid HB4.out hdr)).mono (fun b _ hb => hb) (fun b _ hb => hb)
    obtain ⟨R, hR, hrl, hsrc⟩ := src_of_ents hent
    obtain ⟨R1, hR1, hrl1, hsrc1⟩ := src_of_ents (ents_from hent q HQL.out HNC.out)
    obtain ⟨R2, hR2, hrl2, hsrc2⟩ := src_of_ents (hent.take q HQL.out ce)
    rw [List.length_drop] at hsrc1
    rw [List.length_take, Nat.min_eq_left HQL.out] at hsrc2
    have HSRC := Lib.hid hsrc
    have HSRC1 := Lib.hid hsrc1
    have HSRC2 := Lib.hid hsrc2
    have HR := Lib.hid hR
    have HR1 := Lib.hid hR1
    have HR2 := Lib.hid hR2
    have HRL := Lib.hid hrl
    have HRL1 := Lib.hid hrl1
    have HRL2 := Lib.hid hrl2
    clear hdr hent hR hrl hsrc hR1 hrl1 hsrc1 hR2 hrl2 hsrc2
    go_upto_region 5 with fail
    refine (wpIn_wide (n := 9)).1 ?_
    refine H3.wpIn_region_flow (fun _ => trivial) (by kernel_rfl) (fun _ _ W => Below w4.drew.heap.size w4.drew W) (fun i _ W1 W2 => i = 4 ∨ i = 6 ∨ i = 10 ∨ Lay W1 W2) (GV [none, some (.slice ae es.length ce), some (.int .i64 (q : Nat)), none, none, some (.slice ae es.length ce), none, some (.slice ae es.length ce), some (.int .i64 (q : Nat)), none, none, none] [0, 3, 4, 6, 9, 10, 11] (OZ w4.drew (es.length - q) es.length q R1 R R2)) (fun j => j == 11) (by kernel_rfl) (by kernel_rfl) ?hst (Below.refl _ _) ?step ?fin
    case hst =>
      intro i j ys v w1 w2 hij hanc hned hV hR
      by_cases hj0 : j = 0
      · subst hj0
        rcases hR with rfl | rfl | rfl | hR
        · cases hned.symm.trans (by kernel_rfl : _ = false)
        · cases hned.symm.trans (by kernel_rfl : _ = false)
        · cases hned.symm.trans (by kernel_rfl : _ = false)
        · exact GV.keep (sp := OZ w4.drew (es.length - q) es.length q R1 R R2) (fun _ _ _ _ h hb => OZ.below h hb) hij hV (lay_below hR)
      by_cases hj3 : j = 3
      · subst hj3
        rcases hR with rfl | rfl | rfl | hR
        · cases hned.symm.trans (by kernel_rfl : _ = false)
        · cases hned.symm.trans (by kernel_rfl : _ = false)
        · cases hned.symm.trans (by kernel_rfl : _ = false)
        · exact GV.keep (sp := OZ w4.drew (es.length - q) es.length q R1 R R2) (fun _ _ _ _ h hb => OZ.below h hb) hij hV (lay_below hR)
      by_cases hj4 : j = 4
      · subst hj4
        rcases hR with rfl | rfl | rfl | hR
        · exact absurd rfl hij
        · cases hned.symm.trans (by kernel_rfl : _ = false)
        · cases hned.symm.trans (by kernel_rfl : _ = false)
        · exact GV.keep (sp := OZ w4.drew (es.length - q) es.length q R1 R R2) (fun _ _ _ _ h hb => OZ.below h hb) hij hV (lay_below hR)
      by_cases hj6 : j = 6
      · subst hj6
        rcases hR with rfl | rfl | rfl | hR
        · cases hanc.symm.trans (by kernel_rfl : _ = true)
        · exact absurd rfl hij
        · cases hned.symm.trans (by kernel_rfl : _ = false)
        · exact GV.keep (sp := OZ w4.drew (es.length - q) es.length q R1 R R2) (fun _ _ _ _ h hb => OZ.below h hb) hij hV (lay_below hR)
      by_cases hj9 : j = 9
      · subst hj9
        rcases hR with rfl | rfl | rfl | hR
        · exact GV.still (by decide) hij hV (fun h => h)
        · exact GV.still (by decide) hij hV (fun h => h)
        · cases hned.symm.trans (by kernel_rfl : _ = false)
        · exact GV.keep (sp := OZ w4.drew (es.length - q) es.length q R1 R R2) (fun _ _ _ _ h hb => OZ.below h hb) hij hV (lay_below hR)
      by_cases hj10 : j = 10
      · subst hj10
        rcases hR with rfl | rfl | rfl | hR
        · cases hanc.symm.trans (by kernel_rfl : _ = true)
        · cases hanc.symm.trans (by kernel_rfl : _ = true)
        · exact absurd rfl hij
        · exact GV.keep (sp := OZ w4.drew (es.length - q) es.length q R1 R R2) (fun _ _ _ _ h hb => OZ.below h hb) hij hV (lay_below hR)
      by_cases hj11 : j = 11
      · subst hj11
        rcases hR with rfl | rfl | rfl | hR
        · cases hanc.symm.trans (by kernel_rfl : _ = true)
        · cases hanc.symm.trans (by kernel_rfl : _ = true)
        · cases hanc.symm.trans (by kernel_rfl : _ = true)
        · exact GV.keep (sp := OZ w4.drew (es.length - q) es.length q R1 R R2) (fun _ _ _ _ h hb => OZ.below h hb) hij hV (lay_below hR)
      exact gvq_keep (by simp; omega) hij hV
    case step =>
      refine ⟨?_, ?_, ?_, ?_, ?_, ?_, ?_, ?_, ?_, ?_, ?_, ?_, trivial⟩
      · intro listed ys X W1 hsz hsd hi2 hall hX hI hd K hK
        have HI := Lib.hid hI
        refine H3.step_run (.inl rfl) ?_
        clear hX hd hI
        go_simp
        exact hK _ _ (HI.out.alloc HI.out.size _) (.inr (.inr (.inr ((Keep.refl _ _).alloc _)))) (GV.ofsp (by decide) (show Rk 3 (fun b => w4.drew.heap.size ≤ b) _ _ 0 [] from (rk_new 3 W1 0 [] 29 rfl (by omega)).mono fun b hb _ => by rw [hb]; exact HI.out.size))
      · intro listed ys X W1 hsz hsd hi2 hall hX hI hd K hK
        have e0 : X.tmps.getD 0 undef = .slice ae es.length ce := hX 0 (Nat.le_of_ble_eq_true rfl)
        have HI := Lib.hid hI
        refine H3.step_run (.inl rfl) ?_
        clear hX hd hI
        go_simp
        exact hK _ _ HI.out (.inr (.inr (.inr (Keep.refl _ _)))) (GV.of (by decide) (fun u h => by cases h; rfl))
      · intro listed ys X W1 hsz hsd hi2 hall hX hI hd K hK
        have e2 : X.tmps.getD 2 undef = .int .i64 (q : Nat) := hX 2 (Nat.le_of_ble_eq_true rfl)
        have HI := Lib.hid hI
        refine H3.step_run (.inl rfl) ?_
        clear hX hd hI
        go_simp
        exact hK _ _ HI.out (.inr (.inr (.inr (Keep.refl _ _)))) (GV.of (by decide) (fun u h => by cases h; rfl))
      · intro listed ys X W1 hsz hsd hi2 hall hX hI hd K hK
        have e38 : X.tmps.getD 38 undef = .slice ae es.length ce := (hX 38 (Nat.le_of_ble_eq_true rfl)).trans (GV.val (hd ⟨1, .data⟩ (by simp) rfl) (by decide) rfl)
        have e39 : X.tmps.getD 39 undef = .int .i64 (q : Nat) := (hX 39 (Nat.le_of_ble_eq_true rfl)).trans (GV.val (hd ⟨2, .data⟩ (by simp) rfl) (by decide) rfl)
        have HI := Lib.hid hI
        have hql := HQL.out
        have hnc := HNC.out
        refine H3.step_run (.inl rfl) ?_
        clear hX hd hI
        go_simp
        exact hK _ _ HI.out (.inr (.inr (.inr (Keep.refl _ _)))) (GV.ofsp (by decide) (show ∀ w1, Below w4.drew.heap.size w4.drew w1 → Src Tryz.prog 3 22 _ _ _ w1 from HSRC1.out))
      · intro listed ys X W1 hsz hsd hi2 hall hX hI hd K hK
        have e37 : X.tmps.getD 37 undef = ys 0 := hX 37 (Nat.le_of_ble_eq_true rfl)
        have hv0 := GV.spv (hd ⟨0, .data⟩ (by simp) rfl) (by decide)
        have e40 : X.tmps.getD 40 undef = ys 3 := hX 40 (Nat.le_of_ble_eq_true rfl)
        have hv3 := GV.spv (hd ⟨3, .data⟩ (by simp) rfl) (by decide)
        have h3 : ∀ w1, Below w4.drew.heap.size w4.drew w1 → Src Tryz.prog 3 22 (ys 3) (es.length - q) (flatR R1) w1 := hv3
        have h0 : Rk 3 (fun b => w4.drew.heap.size ≤ b) W1 (ys 0) 0 [] := hv0
        obtain ⟨v', W2, hrun, hr, hk⟩ := run_append_rk E24 h0 (fun b hb => Nat.le_trans hI.size hb) 22 22 _ (es.length - q) (flatR R1) (h3 W1 hI) (by have := HN.out; have := HQL.out; omega) (by have := HN.out; have := HQL.out; omega)
        refine H3.step_run (.inl rfl) ?_
        refine operIn_append13 (.tmp 37) (.tmp 40) 22 rfl e37 e40 hrun ?_
        have hr2 := hr.mono (G' := fun b => w4.drew.heap.size ≤ b) fun b hb _ => hb.1
        refine hK _ _ (hI.trans (hk.below13 (fun b hb => (h0.at hb).1) hI.size)) (.inl rfl) (GV.ofsp (by decide) ?_)
        show Rk 3 (fun b => w4.drew.heap.size ≤ b) W2 v' (es.length - q) (flatR R1)
        rwa [Nat.zero_add, List.nil_append] at hr2
      · intro listed ys X W1 hsz hsd hi2 hall hX hI hd K hK
        have e0 : X.tmps.getD 0 undef = .slice ae es.length ce := hX 0 (Nat.le_of_ble_eq_true rfl)
        have HI := Lib.hid hI
        refine H3.step_run (.inl rfl) ?_
        clear hX hd hI
        go_simp
        exact hK _ _ HI.out (.inr (.inr (.inr (Keep.refl _ _)))) (GV.of (by decide) (fun u h => by cases h; rfl))
      · intro listed ys X W1 hsz hsd hi2 hall hX hI hd K hK
        have e41 : X.tmps.getD 41 undef = ys 4 := hX 41 (Nat.le_of_ble_eq_true rfl)
        have hv4 := GV.spv (hd ⟨4, .data⟩ (by simp) rfl) (by decide)
        have e42 : X.tmps.getD 42 undef = .slice ae es.length ce := (hX 42 (Nat.le_of_ble_eq_true rfl)).trans (GV.val (hd ⟨5, .data⟩ (by simp) rfl) (by decide) rfl)
        have h0 : Rk 3 (fun b => w4.drew.heap.size ≤ b) W1 (ys 4) (es.length - q) (flatR R1) := hv4
        obtain ⟨v', W2, hrun, hr, hk⟩ := run_append_rk E24 h0 (fun b hb => Nat.le_trans hI.size hb) 22 22 _ es.length (flatR R) (HSRC.out W1 hI) (by have := HN.out; have := HQL.out; omega) (by have := HN.out; have := HQL.out; omega)
        refine H3.step_run (.inl rfl) ?_
        refine operIn_append13 (.tmp 41) (.tmp 42) 22 rfl e41 e42 hrun ?_
        have hr2 := hr.mono (G' := fun b => w4.drew.heap.size ≤ b) fun b hb _ => hb.1
        refine hK _ _ (hI.trans (hk.below13 (fun b hb => (h0.at hb).1) hI.size)) (.inr (.inl rfl)) (GV.ofsp (by decide) ?_)
        show Rk 3 (fun b => w4.drew.heap.size ≤ b) W2 v' (es.length - q + es.length) (flatR R1 ++ flatR R)
        exact hr2
      · intro listed ys X W1 hsz hsd hi2 hall hX hI hd K hK
        have e0 : X.tmps.getD 0 undef = .slice ae es.length ce := hX 0 (Nat.le_of_ble_eq_true rfl)
        have HI := Lib.hid hI
        refine H3.step_run (.inl rfl) ?_
        clear hX hd hI
        go_simp
        exact hK _ _ HI.out (.inr (.inr (.inr (Keep.refl _ _)))) (GV.of (by decide) (fun u h => by cases h; rfl))
      · intro listed ys X W1 hsz hsd hi2 hall hX hI hd K hK
        have e2 : X.tmps.getD 2 undef = .int .i64 (q : Nat) := hX 2 (Nat.le_of_ble_eq_true rfl)
        have HI := Lib.hid hI
        refine H3.step_run (.inl rfl) ?_
        clear hX hd hI
        go_simp
        exact hK _ _ HI.out (.inr (.inr (.inr (Keep.refl _ _)))) (GV.of (by decide) (fun u h => by cases h; rfl))
      · intro listed ys X W1 hsz hsd hi2 hall hX hI hd K hK
        have e44 : X.tmps.getD 44 undef = .slice ae es.length ce := (hX 44 (Nat.le_of_ble_eq_true rfl)).trans (GV.val (hd ⟨7, .data⟩ (by simp) rfl) (by decide) rfl)
        have e45 : X.tmps.getD 45 undef = .int .i64 (q : Nat) := (hX 45 (Nat.le_of_ble_eq_true rfl)).trans (GV.val (hd ⟨8, .data⟩ (by simp) rfl) (by decide) rfl)
        have HI := Lib.hid hI
        have hqc : q ≤ ce := Nat.le_trans HQL.out HNC.out
        refine H3.step_run (.inl rfl) ?_
        clear hX hd hI
        go_simp
        exact hK _ _ HI.out (.inr (.inr (.inr (Keep.refl _ _)))) (GV.ofsp (by decide) (show ∀ w1, Below w4.drew.heap.size w4.drew w1 → Src Tryz.prog 3 22 _ _ _ w1 from HSRC2.out))
      · intro listed ys X W1 hsz hsd hi2 hall hX hI hd K hK
        have e43 : X.tmps.getD 43 undef = ys 6 := hX 43 (Nat.le_of_ble_eq_true rfl)
        have hv6 := GV.spv (hd ⟨6, .data⟩ (by simp) rfl) (by decide)
        have e46 : X.tmps.getD 46 undef = ys 9 := hX 46 (Nat.le_of_ble_eq_true rfl)
        have hv9 := GV.spv (hd ⟨9, .data⟩ (by simp) rfl) (by decide)
        have h9 : ∀ w1, Below w4.drew.heap.size w4.drew w1 → Src Tryz.prog 3 22 (ys 9) q (flatR R2) w1 := hv9
        have h0 : Rk 3 (fun b => w4.drew.heap.size ≤ b) W1 (ys 6) (es.length - q + es.length) (flatR R1 ++ flatR R) := hv6
        obtain ⟨v', W2, hrun, hr, hk⟩ := run_append_rk E24 h0 (fun b hb => Nat.le_trans hI.size hb) 22 22 _ q (flatR R2) (h9 W1 hI) (by have := HN.out; have := HQL.out; omega) (by have := HN.out; have := HQL.out; omega)
        refine H3.step_run (.inl rfl) ?_
        refine operIn_append13 (.tmp 43) (.tmp 46) 22 rfl e43 e46 hrun ?_
        have hr2 := hr.mono (G' := fun b => w4.drew.heap.size ≤ b) fun b hb _ => hb.1
        refine hK _ _ (hI.trans (hk.below13 (fun b hb => (h0.at hb).1) hI.size)) (.inr (.inr (.inl rfl))) (GV.ofsp (by decide) ?_)
        show Rk 3 (fun b => w4.drew.heap.size ≤ b) W2 v' (es.length - q + es.length + q) (flatR R1 ++ flatR R ++ flatR R2)
        exact hr2
      · intro listed ys X W1 hsz hsd hi2 hall hX hI hd K hK
        have e47 : X.tmps.getD 47 undef = ys 10 := hX 47 (Nat.le_of_ble_eq_true rfl)
        have hv10 := GV.spv (hd ⟨10, .data⟩ (by simp) rfl) (by decide)
        have HI := Lib.hid hI
        have HV := Lib.hid hv10
        refine H3.step_run (.inl rfl) ?_
        clear hX hd hI hv10
        go_simp
        exact hK _ _ HI.out (.inr (.inr (.inr (Keep.refl _ _)))) (GV.ofsp (by decide) (show Rk 3 (fun b => w4.drew.heap.size ≤ b) W1 _ (es.length - q + es.length + q) (flatR R1 ++ flatR R ++ flatR R2) from HV.out))
    case fin =>
      intro listed ys w5 hall hI hV
      have hrk : Rk 3 (fun b => w4.drew.heap.size ≤ b) w5 (ys 11) (es.length - q + es.length + q) (flatR R1 ++ flatR R ++ flatR R2) := GV.spv (hV 11 (by decide) rfl) (by decide)
      have hb45 : Below w4.drew.heap.size w4.drew w5 := hI
      have hb5 : Below w4.heap.size w4 w5 := below_mid (lay_below ((Keep.refl (fun _ => False) w4).drew)) hI
      obtain ⟨lv, hlv⟩ : ∃ v, ys 11 = v := ⟨_, rfl⟩
      rw [hlv] at hrk
      obtain ⟨ts, hts⟩ : ∃ ts, ts = es.drop q ++ es ++ es.take q := ⟨_, rfl⟩
      have hrl : RawL (fun _ => True) w5 (R1 ++ R ++ R2) := fun z hz => by
        rcases List.mem_append.1 hz with hz | hz
        · rcases List.mem_append.1 hz with hz | hz
          · exact ((HRL1.out z hz).below1 hb45).mono fun _ _ _ => trivial
          · exact ((HRL.out z hz).below1 hb45).mono fun _ _ _ => trivial
        · exact ((HRL2.out z hz).below1 hb45).mono fun _ _ _ => trivial
      have hents : EntsAt (fun b => w4.drew.heap.size ≤ b) (fun _ => True) w5 lv ts := by
        have h1 : Rk 3 (fun b => w4.drew.heap.size ≤ b) w5 lv (es.length - q + es.length + q) (flatR (R1 ++ R ++ R2)) := by
          rw [flatR_append, flatR_append]
          exact hrk
        have h2 := h1.ents hrl
        rw [List.map_append, List.map_append, HR.out, HR1.out, HR2.out, ← hts] at h2
        exact h2
      have htm : ∀ x, x ∈ ts ↔ x ∈ es := fun x => by
        rw [hts, List.mem_append, List.mem_append]
        exact ⟨fun h => h.elim (fun h => h.elim List.mem_of_mem_drop id) List.mem_of_mem_take, fun h => .inl (.inr h)⟩
      have htl : ts.length ≤ 120 := by
        have := HN.out
        rw [hts, List.length_append, List.length_append, List.length_drop, List.length_take]
        omega
      have htw : ∀ e ∈ ts, e.Wf := fun e he => HWF.out e ((htm e).1 he)
      have htb : ts.any Ent.big = false := by
        rw [List.any_eq_false]
        intro x hx
        exact List.any_eq_false.1 HBG.out.2.1 x ((htm x).1 hx)
      have hsame : ∀ x, x ∈ addAll [] ts ↔ x ∈ addAll [] es := fun x => by rw [added_mem, added_mem, List.mem_filter, List.mem_filter, htm]
      have hlen : (addAll [] ts).length = (addAll [] es).length := nodup_len (addAll_nodup List.nodup_nil) (addAll_nodup List.nodup_nil) hsame
      have HSAME := Lib.hid hsame
      have HLEN := Lib.hid hlen
      have HTL := Lib.hid htl
      have HTW := Lib.hid htw
      have HTB := Lib.hid htb
      have HB5 := Lib.hid (below_mid HB4.out hb5)
      have HB25 := Lib.hid (below_mid HB24.out hb5)
      have HENT := Lib.hid hents
      have HF1 := Lib.hid (filled_any (HH.out.below1 HB5.out) (by have := HN.out; omega) (MaxI.below1 HT.out HB5.out))
      obtain ⟨ta, tc, rfl, _⟩ := id hents
      clear hrk hI hV hall hb45 hb5 hts hrl hents htm htl htw htb hsame hlen HSRC HSRC1 HSRC2
      simp only [H3.putsFrom]
      simp only [hlv, Act.put, List.setIfInBounds_toArray, List.set_cons_succ, List.set_cons_zero]
      clear hlv
      go_wp2_with fail
      refine HF1.out.mono ?_
      rintro x w6 ⟨gb, rfl, heng, hb6⟩
      have HE6 := Lib.hid heng
      have HB6 := Lib.hid (below_mid HB5.out hb6)
      have HB26 := Lib.hid (below_mid HB25.out hb6)
      have HF2 := Lib.hid (filled_any (HENT.out.below1 hb6) HTL.out heng.mx)
      clear heng hb6 HF1
      go_upto_region 7 with (go_at_call 9; refine HF2.out.mono ?_; rintro x w7 ⟨hb, rfl, heng2, hb7⟩)
      have HB7 := Lib.hid (below_mid HB6.out hb7)
      have HB27 := Lib.hid (below_mid HB26.out hb7)
      have HE7 := Lib.hid (HE6.out.below hb7)
      have HE72 := Lib.hid heng2
      obtain ⟨LL, hLL⟩ : ∃ LL, LL = askL (addAll [] es) a none desc 100 := ⟨_, rfl⟩
      obtain ⟨bb, hbb⟩ : ∃ bb, bb = askB (addAll [] es) a none desc 100 := ⟨_, rfl⟩
      obtain ⟨kk, hkk⟩ : ∃ kk, kk = askK a := ⟨_, rfl⟩
      have HQ1 : Hid (∀ W, Below w7.heap.size w7 W → Calls Tryz.prog 10 #[.pointer (some ⟨gb, 0, none⟩), dv, .agg #[.bool false, .int .i64 0, .slice none 0 0, .string ⟨#[]⟩], .bool desc, .int .i64 100] W fun x w' => ∃ u, x = .returned (.tuple #[u, .bool bb, .int .i64 kk]) ∧ EntsAt (fun b => W.heap.size ≤ b) (fun _ => True) w' u LL ∧ Below W.heap.size W w') := Lib.hid fun W hW => by
        have hb := below_mid HB7.out hW
        have hc := askR_any (es := es) (a := a) (av := .slice aa a.all.length ca) (mv := .slice am a.mat.length cm) (has := false) (desc := desc) (m := ⟨0, [], ⟨#[]⟩⟩) (ml := .slice none 0 0) (n := 100) (HE7.out.below hW) ⟨_, _, _, rfl⟩ ⟨_, _, _, rfl⟩ (LabsAt.nil _ _) (by have := HN.out; omega)
        rw [← HDV.out] at hc
        refine hc.mono fun x w' h => ?_
        rw [hLL, hbb, hkk]
        exact h.1
      have HQ2 : Hid (∀ W, Below w7.heap.size w7 W → Calls Tryz.prog 10 #[.pointer (some ⟨hb, 0, none⟩), dv, .agg #[.bool false, .int .i64 0, .slice none 0 0, .string ⟨#[]⟩], .bool desc, .int .i64 100] W fun x w' => ∃ u, x = .returned (.tuple #[u, .bool bb, .int .i64 kk]) ∧ EntsAt (fun b => W.heap.size ≤ b) (fun _ => True) w' u LL ∧ Below W.heap.size W w') := Lib.hid fun W hW => by
        have hb := below_mid HB7.out hW
        have hc := askR_any (es := ts) (a := a) (av := .slice aa a.all.length ca) (mv := .slice am a.mat.length cm) (has := false) (desc := desc) (m := ⟨0, [], ⟨#[]⟩⟩) (ml := .slice none 0 0) (n := 100) (HE72.out.below hW) ⟨_, _, _, rfl⟩ ⟨_, _, _, rfl⟩ (LabsAt.nil _ _) HTL.out
        rw [← HDV.out] at hc
        refine hc.mono fun x w' h => ?_
        rw [hLL, hbb, hkk, ← askL_same HSAME.out, ← askB_same HSAME.out]
        exact h.1
      have hk7 := HKA.out.below HB27.out
      have x0 := hk7.cell 0
      have x1 := hk7.cell 1
      have x2 := hk7.cell 2
      have x3 := hk7.cell 3
      have x4 := hk7.cell 4
      simp only [List.getElem?_toArray, List.getElem?_cons_succ, List.getElem?_cons_zero] at x0 x1 x2 x3 x4
      have HK7 := Lib.hid hk7
      clear heng2 hb7 hLL hbb hkk hk7 HF2
      go_wp2_with (go_at_call 11; refine (HANY.out _).mono ?_; rintro x s1 ⟨rfl, hs1⟩)
      refine (HQ1.out _ (hs1)).mono ?_
      rintro x t1 ⟨u1, rfl, hu1, ht1⟩
      have HU1 := Lib.hid hu1
      have HC1 := Lib.hid (below_mid hs1 ht1)
      obtain ⟨la1, lc1, rfl, _⟩ := id HU1.out
      clear hs1 hu1 ht1 x0 x1 x2 x3 x4
      have hk1x := HK7.out.below HC1.out
      have x0 := hk1x.cell 0
      have x1 := hk1x.cell 1
      have x2 := hk1x.cell 2
      have x3 := hk1x.cell 3
      have x4 := hk1x.cell 4
      simp only [List.getElem?_toArray, List.getElem?_cons_succ, List.getElem?_cons_zero] at x0 x1 x2 x3 x4
      clear hk1x
      go_wp2_with (go_at_call 11; refine (HANY.out _).mono ?_; rintro x s2 ⟨rfl, hs2⟩)
      refine (HQ2.out _ (below_mid HC1.out hs2)).mono ?_
      rintro x t2 ⟨u2, rfl, hu2, ht2⟩
      have HU2 := Lib.hid hu2
      have HC2 := Lib.hid (below_mid HC1.out (below_mid hs2 ht2))
      have HC12 := Lib.hid (below_mid hs2 ht2)
      obtain ⟨la2, lc2, rfl, _⟩ := id HU2.out
      clear hs2 hu2 ht2 x0 x1 x2 x3 x4
      have hk2x := HK7.out.below HC2.out
      have x0 := hk2x.cell 0
      have x1 := hk2x.cell 1
      have x2 := hk2x.cell 2
      have x3 := hk2x.cell 3
      have x4 := hk2x.cell 4
      simp only [List.getElem?_toArray, List.getElem?_cons_succ, List.getElem?_cons_zero] at x0 x1 x2 x3 x4
      clear hk2x
      go_wp2_with (go_at_call 11; refine (HANY.out _).mono ?_; rintro x s3 ⟨rfl, hs3⟩)
      refine (HQ1.out _ (below_mid HC2.out hs3)).mono ?_
      rintro x t3 ⟨u3, rfl, hu3, ht3⟩
      have HU3 := Lib.hid hu3
      have HC3 := Lib.hid (below_mid HC2.out (below_mid hs3 ht3))
      have HC23 := Lib.hid (below_mid hs3 ht3)
      obtain ⟨la3, lc3, rfl, _⟩ := id HU3.out
      clear hs3 hu3 ht3 x0 x1 x2 x3 x4
      have hbb : (bb == bb) = true := by cases bb <;> rfl
      have hkk : (kk == kk) = true := by simp
      have HA1 := Lib.hid (all_any (HU1.out.below1 (below_mid HC12.out HC23.out)) (HU2.out.below1 HC23.out))
      go_wp2_with fail
      refine HA1.out.mono ?_
      rintro x v1 ⟨rfl, hl1⟩
      have HA2 := Lib.hid (all_any (HU1.out.below1 (below_mid (below_mid HC12.out HC23.out) (lay_below hl1))) (HU3.out.below1 (lay_below hl1)))
      have HV1 := Lib.hid (lay_below hl1)
      clear hl1 HA1
      go_wp2_with fail
      refine HA2.out.mono ?_
      rintro x v2 ⟨rfl, hl2⟩
      have HV2 := Lib.hid (below_mid HC3.out (below_mid HV1.out (lay_below hl2)))
      have HL1 := Lib.hid (len_any v2 w5.heap.size gb (addAll [] es) (HE7.out.below HV2.out))
      have HL2 := Lib.hid (len_any v2 w6.heap.size hb (addAll [] ts) (HE72.out.below HV2.out))
      rw [HLEN.out] at HL2
      clear hl2 HA2
      go_wp2_with fail
      refine HL1.out.mono ?_
      rintro x v3 ⟨rfl, rfl⟩
      go_wp2_with fail
      refine HL2.out.mono ?_
      rintro x v4 ⟨rfl, rfl⟩
      go_wp2_with fail
      refine bodyPost_ret (v := .bool true) (by simp [results, Tryz.results5, go_sem]) rfl ⟨rfl, below_mid HB7.out HV2.out⟩

end Go.Proofs.YtdjddlebjbngfaaGreatDoor.E4
