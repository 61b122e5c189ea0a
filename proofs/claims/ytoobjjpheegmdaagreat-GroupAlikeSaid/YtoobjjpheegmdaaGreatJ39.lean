/-
  Tk16.
-/
import Derived.Test.YtoobjjpheegmdaaGreatJ38
namespace Go.Proofs.YtoobjjpheegmdaaGreat.E4
open Go.RowKit Go
theorem addAll_snoc (log : List Ent) (e : Ent) : addAll [] (log ++ [e]) = addE (addAll [] log) e := by unfold addAll; rw [List.foldl_append]; rfl
theorem addAll_ok {log : List Ent} : ∀ x ∈ addAll [] log, x.ok = true := fun x hx => by
  rcases addAll_mem.1 hx with h | h
  · cases h
  · exact h.2
theorem addAll_sub {log : List Ent} (h : ∀ x ∈ log, x.ok = true) (x : Ent) : x ∈ addAll [] log ↔ x ∈ log := by
  rw [addAll_mem]
  exact ⟨fun h2 => h2.elim (fun h => by cases h) fun h => h.1, fun h2 => .inr ⟨h2, h x h2⟩⟩
theorem addAll_leq (log : List Ent) : (addAll [] log).length ≤ log.length := by have := addAll_len (es := []) (l := log); simpa using this
theorem ok_line {e : Ent} (h : e.ok = true) : e.line.size ≤ 1000 := by
  unfold Ent.ok lineOK at h
  simp only [Bool.and_eq_true, decide_eq_true_eq] at h
  omega
theorem ok_labs {e : Ent} (h : e.ok = true) : e.labs.length ≤ 4 := by
  unfold Ent.ok labsOK at h
  simp only [Bool.and_eq_true, decide_eq_true_eq] at h
  omega
theorem GC.swap {ρ : Nat → Nat} {E E' : Nat → List Ent} {w : World} {g : Nat} {log : List Ent} {P : List Rep} {lv rv : Value} {R : List (Value × Ent)} (h : GC ρ E w g log P lv rv R) (hE : ∀ i (hi : i < P.length), P[i].eb.isSome = true → E i = E' i) : GC ρ E' w g log P lv rv R :=
  ⟨h.c, h.g, h.z, h.l, h.rl, h.e, h.r, h.n, h.k, fun i hi b hb => by rw [← hE i hi (by rw [hb]; rfl)]; exact h.en i hi b hb, h.ok, h.hl, h.mx⟩
theorem GC.logged {ρ : Nat → Nat} {E : Nat → List Ent} {w w9 : World} {g C : Nat} {log : List Ent} {P : List Rep} {v v' rv lv' : Value} {R : List (Value × Ent)} {e : Ent} (h : GC ρ E w g log P v rv R) (hk : Keep (fun q => q = g ∨ At v q) w w9) (hC : w.heap.size ≤ C)
    (hlab : LabsAt (fun b => w.heap.size ≤ b ∧ b < C) w9 lv' e.labs) (hrk : Rk 3 (fun q => At v q ∨ C ≤ q) w9 v' (R.length + 1) (flatR (R ++ [(lv', e)]))) (hc : Bl w9 g 67 #[v', rv]) (hok : e.ok = true) (hl : log.length < 100) :
    GC (fun b => if b < w.heap.size then ρ b else if b < C then 3 else 2) E w9 g (log ++ [e]) P v' rv (R ++ [(lv', e)]) ∧ Turns ρ (fun b => if b < w.heap.size then ρ b else if b < C then 3 else 2) w w9 := by
  have hat : ∀ b, At v b → ρ b = 2 ∧ b < w.heap.size := fun b hb => h.l.at hb
  have hg := h.g
  have hz := h.z
  have hold : ∀ b, b < w.heap.size → ρ b ≠ 1 → ρ b ≠ 2 → w9.heap[b]? = w.heap[b]? := fun b hb h1 h2 => hk.block b hb fun h => h.elim (fun e => h1 (by rw [e]; exact hg)) fun ha => h2 (hat b ha).1
  have h0 := hold 0 h.pos (by omega) (by omega)
  refine ⟨⟨hc, (if_pos h.c.lt).trans hg, (if_pos h.pos).trans hz, ?_, ?_, by rw [List.map_append, h.e]; rfl, ?_, h.n, h.k, fun i hi b hb => ?_, ?_, by rw [List.length_append, List.length_singleton]; omega, h.mx.carry h0⟩,
    ⟨fun b hb => if_pos hb, fun b hb hb0 => hold b hb (by omega) (by omega), below_of_keep0 hk⟩⟩
  · rw [List.length_append, List.length_singleton]
    refine hrk.mono fun b hb _ => ?_
    rcases hb with hb | hb
    · rw [if_pos (hat b hb).2]; exact (hat b hb).1
    · rw [if_neg (by omega), if_neg (by omega)]
  · intro x hx
    rcases List.mem_append.1 hx with hx | hx
    · exact ((h.rl x hx).mono (H := fun b => ρ b = 3 ∧ b < w.heap.size) fun b hb hlt => ⟨hb, hlt⟩).carry hk.size (fun b hb _ => hold b hb.2 (by omega) (by omega)) |>.mono fun b hb _ => (if_pos hb.2).trans hb.1
    · obtain rfl := List.mem_singleton.1 hx
      exact hlab.mono fun b hb _ => by rw [if_neg (by omega), if_pos hb.2]
  · exact ((h.r.mono (G' := fun b => ρ b = 4 ∧ b < w.heap.size) fun b hb ha => ⟨hb, (h.r.at ha).2⟩).carry hk.size (fun b hb _ _ => hold b hb.2 (by omega) (by omega))).mono fun b hb _ => (if_pos hb.2).trans hb.1
  · exact (((h.en i hi b hb).mono (G := fun q => ρ q = 5 + i ∧ q < w.heap.size) fun q hlt hq => ⟨hq, hlt⟩).carry hk.size h0 fun q hlt hq => hold q hlt (by omega) (by omega)).mono fun q _ hq => (if_pos hq.2).trans hq.1
  · intro x hx
    rcases List.mem_append.1 hx with hx | hx
    · exact h.ok x hx
    · rw [List.mem_singleton.1 hx]; exact hok
theorem GC.fed {ρ : Nat → Nat} {E : Nat → List Ent} {w w' : World} {g : Nat} {log : List Ent} {P : List Rep} {lv rv : Value} {R : List (Value × Ent)} (h : GC ρ E w g log P lv rv R) {i : Nat} (hi : i < P.length) {b : Nat} (hb : P[i].eb = some b) {es : List Ent} (he : EngF P[i].k (fun q => ρ q = 5 + i ∨ w.heap.size ≤ q) w' b es)
    (hold : ∀ q, q < w.heap.size → ¬ ρ q = 5 + i → w'.heap[q]? = w.heap[q]?) (hbel : Below 0 w w') :
    GC (fun q => if q < w.heap.size then ρ q else 5 + i) (fun j => if j = i then es else E j) w' g log P lv rv R ∧ Turns ρ (fun q => if q < w.heap.size then ρ q else 5 + i) w w' := by
  have hg := h.g
  have hz := h.z
  have hs := hbel.size
  have h0 := hold 0 h.pos (by omega)
  refine ⟨⟨(hold g h.c.lt (by omega)).trans h.c, (if_pos h.c.lt).trans hg, (if_pos h.pos).trans hz, ?_, ?_, h.e, ?_, h.n, h.k, fun j hj c hc => ?_, h.ok, h.hl, h.mx.carry h0⟩, ⟨fun q hq => if_pos hq, fun q hq hq0 => hold q hq (by omega), hbel⟩⟩
  · exact ((h.l.mono (G' := fun b => ρ b = 2 ∧ b < w.heap.size) fun b hb ha => ⟨hb, (h.l.at ha).2⟩).carry hs (fun b hb _ _ => hold b hb.2 (by omega))).mono fun b hb _ => (if_pos hb.2).trans hb.1
  · intro x hx
    exact ((h.rl x hx).mono (H := fun b => ρ b = 3 ∧ b < w.heap.size) fun b hb hlt => ⟨hb, hlt⟩).carry hs (fun b hb _ => hold b hb.2 (by omega)) |>.mono fun b hb _ => (if_pos hb.2).trans hb.1
  · exact ((h.r.mono (G' := fun b => ρ b = 4 ∧ b < w.heap.size) fun b hb ha => ⟨hb, (h.r.at ha).2⟩).carry hs (fun b hb _ _ => hold b hb.2 (by omega))).mono fun b hb _ => (if_pos hb.2).trans hb.1
  · by_cases e : j = i
    · subst e
      rw [if_pos rfl]
      rw [hb] at hc
      cases hc
      refine he.mono fun q _ hq => ?_
      split
      · exact hq.elim id fun h => by omega
      · rfl
    · rw [if_neg e]
      exact (((h.en j hj c hc).mono (G := fun q => ρ q = 5 + j ∧ q < w.heap.size) fun q hlt hq => ⟨hq, hlt⟩).carry hs h0 fun q hlt hq => hold q hlt (by omega)).mono fun q _ hq => (if_pos hq.2).trans hq.1
structure TS (W0 : World) (gb : Nat) (v rv : Value) (n : Nat) (R : List (Value × Ent)) (e : Ent) (listed : Array Bool) (ys : Nat → Value) (W : World) : Prop where
  k : Keep (fun q => q = gb ∨ At v q) W0 W
  a : listed.getD 8 false = false → Lay W0 W
  b : listed.getD 8 false = true → ∃ C lv', W0.heap.size ≤ C ∧ LabsAt (fun b => W0.heap.size ≤ b ∧ b < C) W lv' e.labs ∧ Rk 3 (fun q => At v q ∨ C ≤ q) W (ys 8) (n + 1) (flatR (R ++ [(lv', e)]))
  c : Bl W gb 67 (if listed.getD 11 false = true then #[ys 8, rv] else #[v, rv])
theorem TS.other {W0 W W' : World} {gb n : Nat} {v rv : Value} {R : List (Value × Ent)} {e : Ent} {listed : Array Bool} {ys : Nat → Value} (h : TS W0 gb v rv n R e listed ys W) (hl : Lay W W') {i : Nat} (h8 : i ≠ 8) (h11 : i ≠ 11) (u : Value) :
    TS W0 gb v rv n R e (listed.setIfInBounds i true) (H3.upd ys i u) W' := by
  have e8 : (listed.setIfInBounds i true).getD 8 false = listed.getD 8 false := getD_set_ne false h8
  have e11 : (listed.setIfInBounds i true).getD 11 false = listed.getD 11 false := getD_set_ne false h11
  have u8 : H3.upd ys i u 8 = ys 8 := H3.upd_other ys u (Ne.symm h8)
  refine ⟨Keep.trans h.k (hl.into fun _ _ h => h.elim), fun q => Keep.trans (h.a (e8 ▸ q)) hl, fun q => ?_, ?_⟩
  · rw [u8]
    obtain ⟨C, lv', h1, h2, h3⟩ := h.b (e8 ▸ q)
    exact ⟨C, lv', h1, h2.lay hl, h3.lay hl⟩
  · rw [u8, e11]; exact h.c.below (lay_below hl)
def takeP (log : List Ent) (e : Ent) : List Ent × Int := if e.ok = true then if 100 ≤ log.length then (log, 9) else (log ++ [e], 0) else (log, 1)
set_option maxHeartbeats 8000000 in
set_option maxRecDepth 100000 in
theorem gTake_any {ρ : Nat → Nat} {w : World} {g : Nat} {log : List Ent} {P : List Rep} (h : GAt ρ w g log P) {H : Nat → Prop} {e : Ent} {lv : Value} (hl : LabsAt H w lv e.labs) (hH : ∀ b, H b → ρ b = 0) :
    Calls Tryz.prog 9 #[.pointer (some ⟨g, 0, none⟩), e.val lv] w fun x w' => ∃ ρ', x = .returned (.int .i64 (takeP log e).2) ∧ GAt ρ' w' g (takeP log e).1 P ∧ Turns ρ ρ' w w' := by
  have hmx : Tryz.prog.follows .mixedOrders = true := by kernel_rfl
  obtain ⟨v, rv, R, hG⟩ := id h
  obtain ⟨av, cv, rfl⟩ := hG.l.shape
  obtain ⟨ar, cr, rfl⟩ := hG.r.shape
  obtain ⟨a, ca, rfl, h63, _⟩ := id hl
  have HRN : Hid (R.length = log.length) := Lib.hid (by rw [← hG.e, List.length_map])
  obtain ⟨w1, hw1⟩ : ∃ w1, w1 = w.alloc (.cells #[.int .i64 e.tm, .slice a e.labs.length ca, .string e.line] 32) := ⟨_, rfl⟩
  have hl1 : Lay w w1 := by rw [hw1]; exact (Keep.refl _ w).alloc _
  have hk1 : Bl w1 w.heap.size 32 #[.int .i64 e.tm, .slice a e.labs.length ca, .string e.line] := by rw [hw1]; exact Bl.new w 32 _
  obtain ⟨ρ0, hρ0⟩ : ∃ ρ0 : Nat → Nat, ρ0 = fun b => if b < w.heap.size then ρ b else 0 := ⟨_, rfl⟩
  have ha0 : ∀ b, b < w.heap.size → ρ0 b = ρ b := fun b hb => by rw [hρ0]; exact if_pos hb
  have hn0 : ∀ b, w.heap.size ≤ b → ρ0 b = 0 := fun b hb => by rw [hρ0]; exact if_neg (by omega)
  have HG0 := Lib.hid (hG.conv ha0)
  have HGD := Lib.hid (good_any (hl.lay hl1))
  have HA0 := Lib.hid ha0
  have HN0 := Lib.hid hn0
  have HW1 := Lib.hid hw1.symm
  have HK1 := Lib.hid hk1
  have HL1 := Lib.hid hl1
  have HL := Lib.hid (hl.mono (H := fun b => ρ0 b = 0 ∧ b < w.heap.size) fun b hb hlt => ⟨(ha0 b hlt).trans (hH b hb), hlt⟩)
  have HH := Lib.hid h
  have c0 := hk1.cell 0
  have c1 := hk1.cell 1
  have c2 := hk1.cell 2
  simp only [List.getElem?_toArray, List.getElem?_cons_succ, List.getElem?_cons_zero] at c0 c1 c2
  clear hw1 hl1 hk1 hG hl h hρ0 ha0 hn0 hH
  simp only [Ent.val] at HGD ⊢
  cases hok : e.ok with
  | false =>
    rw [hok] at HGD
    have HT : Hid (takeP log e = (log, 1)) := Lib.hid (by unfold takeP; rw [hok]; rfl)
    go_enter Tryz.func9, Tryz.ntmps9
    go_upto_region 1 with fail
    rw [HW1.out]
    go_wp2_with (go_at_call 24; refine HGD.out.mono ?_; rintro x wb ⟨rfl, hl2⟩)
    have hl02 := lay_below (Keep.trans HL1.out hl2)
    go_ret
    rw [HT.out]
    exact ⟨ρ, rfl, HH.out.below hl02, Turns.of hl02⟩
  | true =>
    rw [hok] at HGD
    have HOK := Lib.hid hok
    clear hok
    go_enter Tryz.func9, Tryz.ntmps9
    go_upto_region 1 with fail
    rw [HW1.out]
    go_upto_region 5 with (go_at_call 24; refine HGD.out.mono ?_; rintro x wb ⟨rfl, hl2⟩)
    have hl02 := Keep.trans HL1.out hl2
    have hg2 := HG0.out.below (lay_below hl02)
    have hk2 := HK1.out.below (lay_below hl2)
    have HL02 := Lib.hid hl02
    have HG2 := Lib.hid hg2
    have HK2 := Lib.hid hk2
    have g0 := hg2.c.cell 0
    simp only [List.getElem?_toArray, List.getElem?_cons_zero] at g0
    clear hl2 hl02 hg2 hk2 HGD c0 c1 c2 HK1
    by_cases hlen : 100 ≤ log.length
    · have HT : Hid (takeP log e = (log, 9)) := Lib.hid (by unfold takeP; rw [if_pos HOK.out, if_pos hlen])
      have hrn := HRN.out
      have hlr : (100 : Int) ≤ (R.length : Int) := by omega
      clear hlen hrn
      go_wp2_with fail
      go_ret
      rw [HT.out]
      exact ⟨ρ, rfl, HH.out.below (lay_below HL02.out), Turns.of (lay_below HL02.out)⟩
    have HT : Hid (takeP log e = (log ++ [e], 0)) := Lib.hid (by unfold takeP; rw [if_pos HOK.out, if_neg hlen])
    have HLN : Hid (R.length < 100) := Lib.hid (by have := HRN.out; omega)
    have HLG : Hid (log.length < 100) := Lib.hid (by omega)
    have hlr : (R.length : Int) < (100 : Int) := by have := HLN.out; omega
    clear hlen
    go_upto_region 7 with fail
    clear g0 hlr
    have HC6 : Hid (Bl wb.drew g 67 #[.slice av R.length cv, .slice ar P.length cr]) := Lib.hid (HG2.out.c.below (lay_below ((Keep.refl (fun _ => False) wb).drew)))
    have HAV : Hid (∀ b, At (.slice av R.length cv) b → b < wb.drew.heap.size ∧ b ≠ g) := Lib.hid fun b ha => by
      have h1 := HG2.out.l.at ha
      have h2 := HG2.out.g
      exact ⟨h1.2, fun e => by rw [e] at h1; omega⟩
    have HGL : Hid (g < wb.drew.heap.size) := Lib.hid HG2.out.c.lt
    have HCX : Hid (∀ W1, Keep (fun q => q = g ∨ At (.slice av R.length cv) q) wb.drew W1 → Bl W1 w.heap.size 32 #[.int .i64 e.tm, .slice a e.labs.length ca, .string e.line]) := Lib.hid fun W1 h => (h.block _ HK2.out.lt fun hq => by
      have h0 := HN0.out w.heap.size (Nat.le_refl _)
      have h1 := HG2.out.g
      rcases hq with hq | hq
      · rw [hq] at h0; omega
      · have := (HG2.out.l.at hq).1; omega).trans HK2.out
    have HOW : Hid (∀ W1, Lay wb.drew W1 → Calls Tryz.prog 25 #[.agg #[.int .i64 e.tm, .slice a e.labs.length ca, .string e.line]] W1 fun x w' => ∃ lv', x = .returned (e.val lv') ∧ LabsAt (fun k => W1.heap.size ≤ k) w' lv' e.labs ∧ Lay W1 w') := Lib.hid fun W1 h =>
      ownG_any (((HL.out.lay HL02.out).lay ((Keep.refl (fun _ => False) wb).drew)).lay h) (by have := ok_labs HOK.out; omega)
    have HRK : Hid (∀ W1, Lay wb.drew W1 → Rk 3 (fun _ => True) W1 (.slice av R.length cv) R.length (flatR R)) := Lib.hid fun W1 h => ((HG2.out.l.lay ((Keep.refl (fun _ => False) wb).drew)).lay h).mono fun _ _ _ => trivial
    obtain ⟨iE, zE, EE⟩ := elem24
    refine (wpIn_wide (n := 9)).1 ?_
    refine H3.wpIn_region_flow (fun _ => trivial) (by kernel_rfl) (TS wb.drew g (.slice av R.length cv) (.slice ar P.length cr) R.length R e) (fun i _ W1 W2 => i = 8 ∨ i = 11 ∨ Lay W1 W2) (GV [some (.pointer (some ⟨g, 0, none⟩)), some (.pointer (some ⟨g, 0, none⟩)), some (.pointer (some ⟨g, 0, none⟩)), some (.pointer (some ⟨g, 0, none⟩)), some (.slice av R.length cv), some (.agg #[.int .i64 e.tm, .slice a e.labs.length ca, .string e.line]), none, none, none, some (.pointer (some ⟨g, 0, none⟩)), some (.pointer (some ⟨g, 0, none⟩)), none] [6, 7] (QV wb.drew.heap.size e)) (fun j => false) (by kernel_rfl) (by kernel_rfl) ?hst (⟨Keep.refl _ _, fun _ => Keep.refl _ _, (fun h => by cases h), HC6.out⟩) ?step ?fin
    case hst =>
      intro i j ys v w1 w2 hij hanc hned hV hR
      by_cases hj6 : j = 6
      · subst hj6
        rcases hR with rfl | rfl | hR
        · cases hned.symm.trans (by kernel_rfl : _ = false)
        · cases hned.symm.trans (by kernel_rfl : _ = false)
        · exact GV.keep (sp := QV wb.drew.heap.size e) (fun _ _ _ _ h hb => QV.below h hb) hij hV (lay_below hR)
      by_cases hj7 : j = 7
      · subst hj7
        rcases hR with rfl | rfl | hR
        · cases hned.symm.trans (by kernel_rfl : _ = false)
        · cases hned.symm.trans (by kernel_rfl : _ = false)
        · exact GV.keep (sp := QV wb.drew.heap.size e) (fun _ _ _ _ h hb => QV.below h hb) hij hV (lay_below hR)
      exact gvq_keep (by simp; omega) hij hV
    case step =>
      refine ⟨?_, ?_, ?_, ?_, ?_, ?_, ?_, ?_, ?_, ?_, ?_, ?_, trivial⟩
      · intro listed ys X W1 hsz hsd hi2 hall hX hI hd K hK
        have e0 : X.tmps.getD 0 undef = .pointer (some ⟨g, 0, none⟩) := hX 0 (Nat.le_of_ble_eq_true rfl)
        have HI := Lib.hid hI
        refine H3.step_run (.inl rfl) ?_
        clear hX hd hI
        go_simp
        exact hK _ _ (HI.out.other (Keep.refl _ _) (by decide) (by decide) _) (.inr (.inr (Keep.refl _ _))) (GV.of (by decide) (fun u h => by cases h; rfl))
      · intro listed ys X W1 hsz hsd hi2 hall hX hI hd K hK
        have e0 : X.tmps.getD 0 undef = .pointer (some ⟨g, 0, none⟩) := hX 0 (Nat.le_of_ble_eq_true rfl)
        have HI := Lib.hid hI
        refine H3.step_run (.inl rfl) ?_
        clear hX hd hI
        go_simp
        exact hK _ _ (HI.out.other (Keep.refl _ _) (by decide) (by decide) _) (.inr (.inr (Keep.refl _ _))) (GV.of (by decide) (fun u h => by cases h; rfl))
      · intro listed ys X W1 hsz hsd hi2 hall hX hI hd K hK
        have e22 : X.tmps.getD 22 undef = .pointer (some ⟨g, 0, none⟩) := (hX 22 (Nat.le_of_ble_eq_true rfl)).trans (GV.val (hd ⟨1, .data⟩ (by simp) rfl) (by decide) rfl)
        have HI := Lib.hid hI
        refine H3.step_run (.inl rfl) ?_
        clear hX hd hI
        go_simp
        exact hK _ _ (HI.out.other (Keep.refl _ _) (by decide) (by decide) _) (.inr (.inr (Keep.refl _ _))) (GV.of (by decide) (fun u h => by cases h; rfl))
      · intro listed ys X W1 hsz hsd hi2 hall hX hI hd K hK
        have e23 : X.tmps.getD 23 undef = .pointer (some ⟨g, 0, none⟩) := (hX 23 (Nat.le_of_ble_eq_true rfl)).trans (GV.val (hd ⟨2, .data⟩ (by simp) rfl) (by decide) rfl)
        have HI := Lib.hid hI
        refine H3.step_run (.inl rfl) ?_
        clear hX hd hI
        go_simp
        exact hK _ _ (HI.out.other (Keep.refl _ _) (by decide) (by decide) _) (.inr (.inr (Keep.refl _ _))) (GV.of (by decide) (fun u h => by cases h; rfl))
      · intro listed ys X W1 hsz hsd hi2 hall hX hI hd K hK
        have e24 : X.tmps.getD 24 undef = .pointer (some ⟨g, 0, none⟩) := (hX 24 (Nat.le_of_ble_eq_true rfl)).trans (GV.val (hd ⟨3, .data⟩ (by simp) rfl) (by decide) rfl)
        have hc := hI.c
        rw [H3.not_yet hsd hi2 (c := 11) (by kernel_rfl)] at hc
        have k0 := hc.cell 0
        simp only [Bool.false_eq_true, if_false, List.getElem?_toArray, List.getElem?_cons_zero] at k0
        clear hc
        have HI := Lib.hid hI
        refine H3.step_run (.inl rfl) ?_
        clear hX hd hI
        go_simp
        exact hK _ _ (HI.out.other (Keep.refl _ _) (by decide) (by decide) _) (.inr (.inr (Keep.refl _ _))) (GV.of (by decide) (fun u h => by cases h; rfl))
      · intro listed ys X W1 hsz hsd hi2 hall hX hI hd K hK
        have e3 : X.tmps.getD 3 undef = .pointer (some ⟨w.heap.size, 0, none⟩) := hX 3 (Nat.le_of_ble_eq_true rfl)
        have hx := HCX.out W1 hI.k
        have x0 := hx.cell 0
        have x1 := hx.cell 1
        have x2 := hx.cell 2
        simp only [List.getElem?_toArray, List.getElem?_cons_succ, List.getElem?_cons_zero] at x0 x1 x2
        clear hx
        have HI := Lib.hid hI
        refine H3.step_run (.inl rfl) ?_
        clear hX hd hI
        go_simp
        exact hK _ _ (HI.out.other (Keep.refl _ _) (by decide) (by decide) _) (.inr (.inr (Keep.refl _ _))) (GV.of (by decide) (fun u h => by cases h; rfl))
      · intro listed ys X W1 hsz hsd hi2 hall hX hI hd K hK
        have e26 : X.tmps.getD 26 undef = .agg #[.int .i64 e.tm, .slice a e.labs.length ca, .string e.line] := (hX 26 (Nat.le_of_ble_eq_true rfl)).trans (GV.val (hd ⟨5, .data⟩ (by simp) rfl) (by decide) rfl)
        have hl := hI.a (H3.not_yet hsd hi2 (c := 8) (by kernel_rfl))
        have HI := Lib.hid hI
        refine H3.step_run (.inl rfl) ?_
        clear hX hd hI
        go_simp
        refine ⟨trivial, (callsIn_wide.2 (HOW.out W1 hl)).mono ?_⟩
        rintro x w7 ⟨lv', rfl, hlab, hl7⟩
        exact hK _ _ (HI.out.other hl7 (by decide) (by decide) _) (.inr (.inr hl7)) (GV.ofsp (by decide) (show QV wb.drew.heap.size e 6 (e.val lv') w7 from ⟨lv', rfl, hlab.mono fun b hb _ => Nat.le_trans hl.size hb⟩))
      · intro listed ys X W1 hsz hsd hi2 hall hX hI hd K hK
        have e27 : X.tmps.getD 27 undef = ys 6 := hX 27 (Nat.le_of_ble_eq_true rfl)
        have hv6 := GV.spv (hd ⟨6, .data⟩ (by simp) rfl) (by decide)
        have hl := hI.a (H3.not_yet hsd hi2 (c := 8) (by kernel_rfl))
        have HI := Lib.hid hI
        obtain ⟨lv', hv, hlab⟩ : ∃ lv', ys 6 = e.val lv' ∧ LabsAt (fun b => wb.drew.heap.size ≤ b) W1 lv' e.labs := hv6
        obtain ⟨a2, c2, rfl, _⟩ := id hlab
        rw [hv] at e27
        simp only [Ent.val] at e27
        have e27' : X.tmps[27]?.getD undef = .agg #[.int .i64 e.tm, .slice a2 e.labs.length c2, .string e.line] := by rw [← Array.getD_eq_getD_getElem?]; exact e27
        have HLB := Lib.hid hlab
        have HLW := Lib.hid hl
        refine H3.step_run (.inl rfl) ?_
        clear hX hd hI hlab hv hl
        go_simp
        exact hK _ _ (HI.out.other ((Keep.refl _ _).alloc _) (by decide) (by decide) _) (.inr (.inr ((Keep.refl _ _).alloc _))) (GV.ofsp (by decide) (show QV wb.drew.heap.size e 7 _ _ from ⟨W1.heap.size, _, rfl, HLW.out.size, Bl.new W1 32 _, (HLB.out.mono (H := fun b => wb.drew.heap.size ≤ b ∧ b < W1.heap.size) fun b hb hlt => ⟨hb, hlt⟩).alloc _⟩))
      · intro listed ys X W1 hsz hsd hi2 hall hX hI hd K hK
        have e25 : X.tmps.getD 25 undef = .slice av R.length cv := (hX 25 (Nat.le_of_ble_eq_true rfl)).trans (GV.val (hd ⟨4, .data⟩ (by simp) rfl) (by decide) rfl)
        have e28 : X.tmps.getD 28 undef = ys 7 := hX 28 (Nat.le_of_ble_eq_true rfl)
        have hv7 := GV.spv (hd ⟨7, .data⟩ (by simp) rfl) (by decide)
        have hl := hI.a hi2
        have h11 := H3.not_yet hsd hi2 (c := 11) (by kernel_rfl)
        have hs8 : 8 < listed.size := by rw [hsz]; decide
        obtain ⟨C, lv', hv, hC, hbl, hlab⟩ : ∃ C lv', ys 7 = .slice (some ⟨C, 0, none⟩) 1 1 ∧ wb.drew.heap.size ≤ C ∧ Bl W1 C 32 #[.int .i64 e.tm, lv', .string e.line] ∧ LabsAt (fun b => wb.drew.heap.size ≤ b ∧ b < C) W1 lv' e.labs := hv7
        rw [hv] at e28
        obtain ⟨v', W2, hrun, hr, hk⟩ := run_append_rk EE (HRK.out W1 hl) (fun _ _ => trivial) 43 43 _ 1 (flatR [(lv', e)]) (src_ent hbl hlab) (by have := HLN.out; omega) (by have := HLN.out; omega)
        refine H3.step_run (.inl rfl) ?_
        refine operIn_append13 (.tmp 25) (.tmp 28) 43 rfl e25 e28 hrun ?_
        have hnav : ∀ b, At (.slice av R.length cv) b → b < wb.drew.heap.size ∧ b ≠ g := HAV.out
        refine hK _ _ ⟨Keep.trans hI.k (hk.into fun q _ h => .inr h), fun q => by simp [Array.getD, hs8] at q, fun _ => ⟨C, lv', hC, hlab.keep hk fun b hb _ ha => by have := (hnav b ha).1; omega, ?_⟩, ?_⟩ (.inl rfl) (GV.of (by decide) (fun u h => by cases h))
        · rw [H3.upd_same, flatR_append]
          exact hr.mono fun q hq _ => hq.2.imp id fun h => by have := hbl.lt; omega
        · have e11 : (listed.setIfInBounds 8 true).getD 11 false = false := (getD_set_ne false (by decide)).trans h11
          have hc := hI.c
          rw [h11] at hc
          rw [e11]
          exact (hk.block g (hc.lt) fun ha => (hnav g ha).2 rfl).trans hc
      · intro listed ys X W1 hsz hsd hi2 hall hX hI hd K hK
        have e21 : X.tmps.getD 21 undef = .pointer (some ⟨g, 0, none⟩) := (hX 21 (Nat.le_of_ble_eq_true rfl)).trans (GV.val (hd ⟨0, .data⟩ (by simp) rfl) (by decide) rfl)
        have HI := Lib.hid hI
        refine H3.step_run (.inl rfl) ?_
        clear hX hd hI
        go_simp
        exact hK _ _ (HI.out.other (Keep.refl _ _) (by decide) (by decide) _) (.inr (.inr (Keep.refl _ _))) (GV.of (by decide) (fun u h => by cases h; rfl))
      · intro listed ys X W1 hsz hsd hi2 hall hX hI hd K hK
        have e30 : X.tmps.getD 30 undef = .pointer (some ⟨g, 0, none⟩) := (hX 30 (Nat.le_of_ble_eq_true rfl)).trans (GV.val (hd ⟨9, .data⟩ (by simp) rfl) (by decide) rfl)
        have HI := Lib.hid hI
        refine H3.step_run (.inl rfl) ?_
        clear hX hd hI
        go_simp
        exact hK _ _ (HI.out.other (Keep.refl _ _) (by decide) (by decide) _) (.inr (.inr (Keep.refl _ _))) (GV.of (by decide) (fun u h => by cases h; rfl))
      · intro listed ys X W1 hsz hsd hi2 hall hX hI hd K hK
        have e31 : X.tmps.getD 31 undef = .pointer (some ⟨g, 0, none⟩) := (hX 31 (Nat.le_of_ble_eq_true rfl)).trans (GV.val (hd ⟨10, .data⟩ (by simp) rfl) (by decide) rfl)
        have e29 : X.tmps.getD 29 undef = ys 8 := hX 29 (Nat.le_of_ble_eq_true rfl)
        have h8 := hall ⟨8, .data⟩ (by simp) rfl
        have hs11 : 11 < listed.size := by rw [hsz]; decide
        obtain ⟨C, lv', hC, hlab, hr⟩ := hI.b h8
        have hc := hI.c
        rw [hi2] at hc
        obtain ⟨a3, c3, hsh⟩ := hr.shape
        have hnav : ∀ b, At (.slice av R.length cv) b → b < wb.drew.heap.size ∧ b ≠ g := HAV.out
        have hgw : g < wb.drew.heap.size := HGL.out
        have hset := hc.set12 0 (ys 8)
        simp only [Bool.false_eq_true, if_false, List.setIfInBounds_toArray, List.set_cons_zero] at hset hc
        have hks : Keep (fun k => k = g) W1 (W1.setCell ⟨g, 0, none⟩ (ys 8)) := keep_set12 (Keep.refl _ _) 0 _
        have HN := Lib.hid (show TS wb.drew g (.slice av R.length cv) (.slice ar P.length cr) R.length R e (listed.setIfInBounds 11 true) (H3.upd ys 11 undef) (W1.setCell ⟨g, 0, none⟩ (ys 8)) from ⟨Keep.trans hI.k (hks.into fun q _ h => .inl h), (fun q => by
            rw [show (listed.setIfInBounds 11 true).getD 8 false = listed.getD 8 false from getD_set_ne false (by decide), h8] at q; cases q), (fun _ => ⟨C, lv', hC, hlab.keep hks fun b hb _ ha => by have : b = g := ha; omega, by
            rw [H3.upd_other _ _ (by decide)]
            exact hr.carry hks.size fun q hq _ hlt => hks.block q hlt fun e2 => by
              have e3 : q = g := e2
              rcases hq with hq | hq
              · exact (hnav q hq).2 e3
              · omega⟩), by
            rw [show (listed.setIfInBounds 11 true).getD 11 false = true from by simp [Array.getD, hs11], H3.upd_other _ _ (by decide)]
            exact hset⟩)
        have k0 := hc.cell 0
        have z0 := hc.frozen 0
        simp only [List.getElem?_toArray, List.getElem?_cons_zero] at k0
        refine H3.step_run (.inl rfl) ?_
        rw [hsh] at e29 HN
        clear hX hd hI hset hks hc hr hlab hnav
        go_simp
        exact hK _ _ HN.out (.inr (.inl rfl)) (GV.of (by decide) (fun u h => by cases h))
    case fin =>
      intro listed ys w9 hall hI _
      have hk := hI.k
      obtain ⟨C, lv', hC, hlab, hrk⟩ := hI.b (hall 8 (by decide))
      have hc := hI.c
      rw [hall 11 (by decide)] at hc
      obtain ⟨a9, c9, hv9⟩ := hrk.shape
      rw [hv9] at hrk hc
      have hgl := (HG2.out.below (lay_below ((Keep.refl (fun _ => False) wb).drew))).logged hk hC hlab hrk hc HOK.out HLG.out
      have hbx := HCX.out w9 hk
      have HGL9 := Lib.hid hgl.1
      have HT9 : Hid (Turns ρ0 _ w w9) := Lib.hid ((Turns.of (lay_below HL02.out)).trans ((Turns.of (lay_below ((Keep.refl (fun _ => False) wb).drew))).trans hgl.2))
      have HBX := Lib.hid hbx
      clear hall hI hk hC hlab hrk hc hgl hbx HC6 HAV HGL HCX HOW HRK
      simp only [H3.putsFrom]
      simp only [hv9, Nat.zero_add, Nat.reduceAdd, Act.put, List.setIfInBounds_toArray, List.set_cons_succ, List.set_cons_zero]
      clear hv9
      have g1 := HGL9.out.c.cell 1
      simp only [List.getElem?_toArray, List.getElem?_cons_succ, List.getElem?_cons_zero] at g1
      have HPN : Hid (P.length ≤ 3) := Lib.hid HG2.out.n
      have HOKL : Hid (∀ x ∈ addAll [] log, x.ok = true) := Lib.hid addAll_ok
      have HLEN : Hid ((addAll [] log).length ≤ 1000) := Lib.hid (by have := addAll_leq log; have := HLG.out; omega)
      have HLAB : Hid (LabsAt (fun b => (if b < wb.drew.heap.size then ρ0 b else if b < C then 3 else 2) = 0 ∧ b < w.heap.size) w9 (.slice a e.labs.length ca) e.labs) := Lib.hid ((HL.out.carry HT9.out.bel.size fun b hb hlt => HT9.out.hold b hlt hb.1).mono fun b hb _ => ⟨(HT9.out.ag b hb.2).trans hb.1, hb.2⟩)
      obtain ⟨ρ9, hρ9⟩ : ∃ ρ9 : Nat → Nat, ρ9 = fun b => if b < wb.drew.heap.size then ρ0 b else if b < C then 3 else 2 := ⟨_, rfl⟩
      rw [← hρ9] at HGL9 HT9
      simp only [← show ∀ b, ρ9 b = if b < wb.drew.heap.size then ρ0 b else if b < C then 3 else 2 from fun b => by rw [hρ9]] at HLAB
      have HZ9 : Hid (ρ9 w.heap.size = 0) := Lib.hid (by
        rw [hρ9]
        exact (if_pos (show w.heap.size < wb.drew.heap.size from HK2.out.lt)).trans (HN0.out _ (Nat.le_refl _)))
      clear hρ9
      go_wp2_with fail
      go_loopw [37] (fun vi wr => ∃ (i : Nat) (ρi : Nat → Nat), vi = .int .i64 i ∧ i ≤ P.length ∧ GC ρi (fun j => if j < i then addAll [] (log ++ [e]) else addAll [] log) wr g (log ++ [e]) P (.slice a9 (R.length + 1) c9) (.slice ar P.length cr) (R ++ [(lv', e)]) ∧ Turns ρ9 ρi w9 wr) (fun vi _ => P.length - (intOf vi).toNat)
      case atStart => exact ⟨0, ρ9, rfl, Nat.zero_le _, HGL9.out.swap fun i _ _ => (if_neg (Nat.not_lt_zero i)).symm, Turns.of (Below.refl _ _)⟩
      case round =>
        obtain ⟨i, ρi, rfl, hi, hgc, ht⟩ := hrel
        have HGC := Lib.hid hgc
        have HTR := Lib.hid ht
        have g1 := hgc.c.cell 1
        simp only [List.getElem?_toArray, List.getElem?_cons_succ, List.getElem?_cons_zero] at g1
        have hpn := HPN.out
        by_cases hlt : i < P.length
        · obtain ⟨q, c', hv, hq, hqlt, x0, x1, x2, -⟩ := hgc.r.rep hlt
          simp only [Value.slice.injEq, true_and] at hv
          obtain ⟨rfl, rfl⟩ := hv
          have HU := Lib.hid (upR_any x2)
          clear hgc ht
          cases he : P[i].eb with
          | none =>
            rw [he] at HU
            have HE := Lib.hid he
            clear he x0 x1 x2
            go_wp2_with (go_at_call 26; refine HU.out.mono ?_; rintro x w4 ⟨rfl, rfl⟩)
            go_wp2
            go_roundw
            case rel =>
              refine ⟨i + 1, ρi, by go_num, by omega, HGC.out.swap fun j hj hu => ?_, HTR.out⟩
              have hne : j ≠ i := fun e => by subst e; rw [HE.out] at hu; cases hu
              by_cases h1 : j < i
              · rw [if_pos h1, if_pos (by omega)]
              · rw [if_neg h1, if_neg (by omega)]
            case measure => simp [intOf]; omega
          | some eb =>
            rw [he] at HU x2
            have HE := Lib.hid he
            have hk3 := HGC.out.k P[i] (List.getElem_mem hlt)
            have hen := HGC.out.en i hlt eb he
            rw [if_neg (Nat.lt_irrefl i)] at hen
            have HK3 := Lib.hid hk3
            have HEN := Lib.hid hen
            have hbx := HBX.out
            have HBXR : Hid (Bl wr w.heap.size 32 #[.int .i64 e.tm, .slice a e.labs.length ca, .string e.line]) := Lib.hid ((HTR.out.hold _ hbx.lt HZ9.out).trans hbx)
            have HEV : Hid (engV P[i].k (some eb) = .iface (tyK P[i].k) (.pointer (some ⟨eb, 0, none⟩))) := Lib.hid rfl
            have HLR : Hid (LabsAt (fun b => ρi b = 0 ∧ b < w.heap.size) wr (.slice a e.labs.length ca) e.labs) := Lib.hid ((HLAB.out.carry HTR.out.bel.size fun b hb hlt => HTR.out.hold b hlt hb.1).mono fun b hb _ => ⟨(HTR.out.ag b (Nat.lt_of_lt_of_le hb.2 HT9.out.bel.size)).trans hb.1, hb.2⟩)
            have HADD := Lib.hid (addF_any (w := wr.drew) ((hen.below HGC.out.pos (lay_below ((Keep.refl (fun _ => False) wr).drew)))) (HLR.out.lay ((Keep.refl (fun _ => False) wr).drew)) (fun b hb _ hq => by omega) (ok_mod HOK.out) (ok_line HOK.out) (fun x hx => ok_mod (HOKL.out x hx)) HLEN.out)
            simp only [Ent.val] at HADD
            rw [HEV.out] at x2
            have y0 := HBXR.out.cell 0
            have y1 := HBXR.out.cell 1
            have y2 := HBXR.out.cell 2
            simp only [List.getElem?_toArray, List.getElem?_cons_succ, List.getElem?_cons_zero] at y0 y1 y2
            obtain ⟨k, hkk⟩ : ∃ k, k = P[i].k := ⟨_, rfl⟩
            simp only [← hkk] at x2 HADD HK3
            have hinv : ∀ (W : World) (fuel : Nat), (method (fuel + 1) (tyK k) (.pointer (some ⟨eb, 0, none⟩)) "Add").run Tryz.prog W = .ok (addK k, .pointer (some ⟨eb, 0, none⟩)) W := fun W fuel => inv_add HK3.out _ fuel W
            have hent : ∀ (args : Array Value) (W : World), (callFunc (addK k) args).run Tryz.prog W = .ok (.enter (addK k) args) W := enter_add HK3.out
            have HKK := Lib.hid hkk
            clear he hk3 hen x0 x1 hbx hkk
            go_upto_region 13 with (go_at_call 26; refine HU.out.mono ?_; rintro x w4 ⟨rfl, hw4⟩; obtain rfl := hw4.symm)
            refine (wpIn_wide (n := 9)).1 ?_
            refine H3.wpIn_region_flow (fun _ => trivial) (by kernel_rfl) (H3.waistI 5 wr.drew (fun _ W6 => EngF k (fun q => ρi q = 5 + i ∨ wr.heap.size ≤ q) W6 eb (addE (addAll [] log) e) ∧ (∀ b, b < wr.heap.size → ¬ ρi b = 5 + i → W6.heap[b]? = wr.heap[b]?) ∧ Below 0 wr W6)) (fun _ _ _ _ => True) (GV [some (.pointer (some ⟨q, i * 3, none⟩)), some (.pointer (some ⟨q, i * 3, none⟩)), some (.pointer (some ⟨q, i * 3 + 2, none⟩)), some (.iface (tyK k) (.pointer (some ⟨eb, 0, none⟩))), some (.agg #[.int .i64 e.tm, .slice a e.labs.length ca, .string e.line]), none] [] (fun _ _ _ => True)) (fun j => false) (by kernel_rfl) (by kernel_rfl) ?hst (⟨fun _ => rfl, (fun h => by cases h)⟩) ?step ?fin
            case hst =>
              intro i j ys v w1 w2 hij hanc hned hV hR
              exact gvq_keep (by simp) hij hV
            case step =>
              refine ⟨?_, ?_, ?_, ?_, ?_, ?_, trivial⟩
              · intro listed ys X W1 hsz hsd hi2 hall hX hI hd K hK
                have e6 : X.tmps.getD 6 undef = .pointer (some ⟨q, i * 3, none⟩) := hX 6 (Nat.le_of_ble_eq_true rfl)
                obtain rfl := hI.1 (H3.not_yet hsd hi2 (by kernel_rfl))
                have HI := Lib.hid hI
                refine H3.step_run (.inl rfl) ?_
                clear hX hd hI
                go_simp
                exact hK _ _ (HI.out.other (by decide) _) trivial (GV.of (by decide) (fun u h => by cases h; rfl))
              · intro listed ys X W1 hsz hsd hi2 hall hX hI hd K hK
                have e48 : X.tmps.getD 48 undef = .pointer (some ⟨q, i * 3, none⟩) := (hX 48 (Nat.le_of_ble_eq_true rfl)).trans (GV.val (hd ⟨0, .data⟩ (by simp) rfl) (by decide) rfl)
                obtain rfl := hI.1 (H3.not_yet hsd hi2 (by kernel_rfl))
                have HI := Lib.hid hI
                refine H3.step_run (.inl rfl) ?_
                clear hX hd hI
                go_simp
                exact hK _ _ (HI.out.other (by decide) _) trivial (GV.of (by decide) (fun u h => by cases h; rfl))
              · intro listed ys X W1 hsz hsd hi2 hall hX hI hd K hK
                have e49 : X.tmps.getD 49 undef = .pointer (some ⟨q, i * 3, none⟩) := (hX 49 (Nat.le_of_ble_eq_true rfl)).trans (GV.val (hd ⟨1, .data⟩ (by simp) rfl) (by decide) rfl)
                obtain rfl := hI.1 (H3.not_yet hsd hi2 (by kernel_rfl))
                have HI := Lib.hid hI
                refine H3.step_run (.inl rfl) ?_
                clear hX hd hI
                go_simp
                exact hK _ _ (HI.out.other (by decide) _) trivial (GV.of (by decide) (fun u h => by cases h; rfl))
              · intro listed ys X W1 hsz hsd hi2 hall hX hI hd K hK
                have e50 : X.tmps.getD 50 undef = .pointer (some ⟨q, i * 3 + 2, none⟩) := (hX 50 (Nat.le_of_ble_eq_true rfl)).trans (GV.val (hd ⟨2, .data⟩ (by simp) rfl) (by decide) rfl)
                obtain rfl := hI.1 (H3.not_yet hsd hi2 (by kernel_rfl))
                have HI := Lib.hid hI
                refine H3.step_run (.inl rfl) ?_
                clear hX hd hI
                go_simp
                exact hK _ _ (HI.out.other (by decide) _) trivial (GV.of (by decide) (fun u h => by cases h; rfl))
              · intro listed ys X W1 hsz hsd hi2 hall hX hI hd K hK
                have e3 : X.tmps.getD 3 undef = .pointer (some ⟨w.heap.size, 0, none⟩) := hX 3 (Nat.le_of_ble_eq_true rfl)
                obtain rfl := hI.1 (H3.not_yet hsd hi2 (by kernel_rfl))
                have HI := Lib.hid hI
                refine H3.step_run (.inl rfl) ?_
                clear hX hd hI
                go_simp
                exact hK _ _ (HI.out.other (by decide) _) trivial (GV.of (by decide) (fun u h => by cases h; rfl))
              · intro listed ys X W1 hsz hsd hi2 hall hX hI hd K hK
                have e51 : X.tmps.getD 51 undef = .iface (tyK k) (.pointer (some ⟨eb, 0, none⟩)) := (hX 51 (Nat.le_of_ble_eq_true rfl)).trans (GV.val (hd ⟨3, .data⟩ (by simp) rfl) (by decide) rfl)
                have e52 : X.tmps.getD 52 undef = .agg #[.int .i64 e.tm, .slice a e.labs.length ca, .string e.line] := (hX 52 (Nat.le_of_ble_eq_true rfl)).trans (GV.val (hd ⟨4, .data⟩ (by simp) rfl) (by decide) rfl)
                obtain rfl := hI.1 hi2
                refine H3.step_run (.inl rfl) ?_
                clear hX hd
                go_simp
                refine ⟨trivial, (callsIn_wide.2 (HADD.out)).mono ?_⟩
                rintro x w6 ⟨rfl, hp6, hk6, hb6⟩
                exact hK _ _ (H3.waistI.call (by rw [hsz]; decide) ⟨hp6, hk6, ((lay_below ((Keep.refl (fun _ => False) wr).drew)).mono (Nat.zero_le _)).trans hb6⟩) trivial (GV.of (by decide) (fun u h => by cases h))
            case fin =>
              intro listed ys w6 hall hI _
              obtain ⟨he6, hk6, hb6⟩ := hI.2 (hall 5 (by decide))
              have hf := HGC.out.fed hlt HE.out (by rw [← HKK.out]; exact he6) hk6 hb6
              have HF1 := Lib.hid hf.1
              have HF2 := Lib.hid (HTR.out.trans hf.2)
              clear hall hI he6 hk6 hb6 hf y0 y1 y2 x2 g1
              simp only [H3.putsFrom]
              simp only [Nat.zero_add, Nat.reduceAdd, Act.put, List.setIfInBounds_toArray, List.set_cons_succ, List.set_cons_zero]
              go_wp2
              go_roundw
              case rel =>
                refine ⟨i + 1, _, by go_num, by omega, HF1.out.swap fun j hj hu => ?_, HF2.out⟩
                by_cases h1 : j = i
                · subst h1
                  rw [if_pos rfl, if_pos (by omega), addAll_snoc]
                · rw [if_neg h1]
                  by_cases h2 : j < i
                  · rw [if_pos h2, if_pos (by omega)]
                  · rw [if_neg h2, if_neg (by omega)]
              case measure => simp [intOf]; omega
        · obtain rfl : i = P.length := by omega
          clear hgc ht
          have HEND : Hid (GAt ρi wr g (log ++ [e]) P) := Lib.hid ⟨_, _, _, HGC.out.swap fun j hj _ => if_pos hj⟩
          have HTE : Hid (Turns ρ ρi w wr) := Lib.hid (by
            have h := HT9.out.trans HTR.out
            exact ⟨fun b hb => (h.ag b hb).trans (HA0.out b hb), fun b hb h0 => h.hold b hb ((HA0.out b hb).trans h0), h.bel⟩)
          go_wp2_with fail
          go_ret
          rw [HT.out]
          exact ⟨ρi, rfl, HEND.out, HTE.out⟩
end Go.Proofs.YtoobjjpheegmdaaGreat.E4
