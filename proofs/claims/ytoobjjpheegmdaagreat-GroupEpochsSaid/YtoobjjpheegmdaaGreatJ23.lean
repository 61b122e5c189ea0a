/-
  Pt14.
-/
import Derived.Test.YtoobjjpheegmdaaGreatJ20
import Derived.Test.YtoobjjpheegmdaaGreatJ21
import Derived.Test.YtoobjjpheegmdaaGreatJ22
import Derived.Deep.RegionLaw
namespace Go.Proofs.YtoobjjpheegmdaaGreat.E4
open Go.RowKit Go
open Go.Sort (grow)
theorem xs_set {CH : List (Value × List (Value × Ent))} (i : Nat) (x : Value × List (Value × Ent)) : (CH.map Prod.fst).set i x.1 = (CH.set i x).map Prod.fst := by rw [List.map_set]
def PV (B0 : Nat) (L : Nat → Prop) (D : List Ent) (j : Nat) (v : Value) (w : World) : Prop :=
  if j = 10 then ∃ R, Rk 3 (fun b => B0 ≤ b) w v R.length (flatR R) ∧ RawL L w R ∧ R.map Prod.snd = D
  else ∃ A v2 R, v = .slice (some ⟨A, 0, none⟩) 1 1 ∧ B0 ≤ A ∧ Bl w A 43 #[v2] ∧ Rk 3 (fun b => B0 ≤ b ∧ b < A) w v2 R.length (flatR R) ∧ RawL L w R ∧ R.map Prod.snd = D
theorem PV.below {B0 : Nat} {L : Nat → Prop} {D : List Ent} {j : Nat} {v : Value} {w w' : World} (h : PV B0 L D j v w) (hb : Below w.heap.size w w') : PV B0 L D j v w' := by
  unfold PV at h ⊢
  split at h
  · rename_i hj
    rw [if_pos hj]
    obtain ⟨R, h1, h2, h3⟩ := h
    exact ⟨R, h1.below1 hb, h2.below1 hb, h3⟩
  · rename_i hj
    rw [if_neg hj]
    obtain ⟨A, v2, R, h1, h2, h3, h4, h5, h6⟩ := h
    exact ⟨A, v2, R, h1, h2, h3.below hb, h4.below1 hb, h5.below1 hb, h6⟩
def PO (B0 : Nat) (L : Nat → Prop) (D : List Ent) (cv : Value) (n i : Nat) (xs : List Value) (v : Value) (w : World) : Prop :=
  ∃ C v2 R, B0 ≤ C ∧ Rk 3 (fun b => B0 ≤ b ∧ b < C) w v2 R.length (flatR R) ∧ RawL L w R ∧ R.map Prod.snd = D ∧ Rk 1 (fun b => At cv b ∨ C ≤ b) w v (n + 1) (xs.take (i + 1) ++ (v2 :: xs.drop (i + 1)))
theorem PO.stay {B0 : Nat} {L : Nat → Prop} {D : List Ent} {cv : Value} {n i : Nat} {xs : List Value} (v : Value) : StayL (PO B0 L D cv n i xs v) := fun W W' hl h => by
  obtain ⟨C, v2, R, h1, h2, h3, h4, h5⟩ := h
  exact ⟨C, v2, R, h1, h2.lay hl, h3.lay hl, h4, h5.lay hl⟩
theorem bl_stay (fb : Nat) (t : TypeId) (arr : Array Value) : StayL (fun W => Bl W fb t arr) := fun _ _ hl h => h.below (lay_below hl)
theorem Rk.takeC {k : Nat} {G : Nat → Prop} {w : World} {g n c : Nat} {xs : List Value} (h : Rk k G w (.slice (Option.some ⟨g, 0, Option.none⟩) n c) n xs) (m : Nat) (hm : m ≤ n) : Rk k G w (.slice (Option.some ⟨g, 0, Option.none⟩) m c) m (xs.take (m * k)) := by
  obtain ⟨h0, ⟨h, _⟩ | ⟨g', c', hv, hG, hlt, h1, h2, h3, h4⟩⟩ := h
  · cases h
  · simp only [Value.slice.injEq, Option.some.injEq, Addr.mk.injEq, and_true, true_and] at hv
    obtain ⟨rfl, rfl⟩ := hv
    have hmk : m * k ≤ n * k := Nat.mul_le_mul_right k hm
    have hl : (xs.take (m * k)).length = m * k := by rw [List.length_take]; omega
    exact ⟨hl, .inr ⟨g, c, rfl, hG, hlt, by omega, h2, fun j hj => by rw [hl] at hj; rw [List.getElem?_take_of_lt hj]; exact h3 j (by omega), h4⟩⟩
theorem flatR_takeP : ∀ (R : List (Value × Ent)) (q : Nat), (flatR R).take (q * 3) = flatR (R.take q)
  | [], q => by simp [flatR]
  | x :: R, 0 => by simp [flatR]
  | x :: R, q + 1 => by
    rw [show (q + 1) * 3 = q * 3 + 1 + 1 + 1 by omega]
    show ((Value.int .i64 x.2.tm :: x.1 :: .string x.2.line :: flatR R).take _) = Value.int .i64 x.2.tm :: x.1 :: .string x.2.line :: flatR (R.take q)
    rw [List.take_succ_cons, List.take_succ_cons, List.take_succ_cons, flatR_takeP R q]
theorem split_at {α : Type} (A : List α) (u : α) (B : List α) (i : Nat) (h : A.length = i) : (A ++ u :: B).take (i + 1) = A ++ [u] ∧ (A ++ u :: B).drop (i + 1) = B := by
  subst h
  exact ⟨by rw [List.take_length_add_append]; rfl, by rw [List.drop_length_add_append]; rfl⟩
theorem part_end {G L : Nat → Prop} {w wb w3 : World} {lv v' v2 : Value} {ls : List Lab} {CH : List (Value × List (Value × Ent))} {fb i gc cc ge ce n C : Nat} {R : List (Value × Ent)} (h : FlowAt G L w lv (.slice (some ⟨gc, 0, none⟩) CH.length cc) ls CH) (hi : i < CH.length) (hv : CH[i].1 = .slice (some ⟨ge, 0, none⟩) n ce) (hn : n = CH[i].2.length) (h2 : 2 ≤ n)
    (hfG : ¬ G fb) (hLg : ∀ b, L b → ¬ b = gc) (hLf : ∀ b, L b → ¬ b = fb) (hgc : gc < w.heap.size) (hs : wb.heap.size = w.heap.size) (hk : Keep (fun b => b = gc) w wb) (hk3 : Keep (fun b => b = fb ∨ b = gc) wb w3)
    (hC : wb.heap.size ≤ C) (hr2 : Rk 3 (fun b => wb.heap.size ≤ b ∧ b < C) w3 v2 R.length (flatR R)) (hR2 : RawL L w3 R) (hRD : R.map Prod.snd = (entsC CH[i]).drop (n / 2))
    (hr : Rk 1 (fun b => At (.slice (some ⟨gc, 0, none⟩) CH.length cc) b ∨ C ≤ b) w3 v' (CH.length + 1) (((CH.map Prod.fst).set i (.slice (some ⟨ge, 0, none⟩) (n / 2) ce)).take (i + 1) ++ (v2 :: ((CH.map Prod.fst).set i (.slice (some ⟨ge, 0, none⟩) (n / 2) ce)).drop (i + 1)))) (hGc : G gc) :
    FlowAt (fun b => G b ∨ w.heap.size ≤ b) L w3 lv v' ls (CH.take i ++ (.slice (some ⟨ge, 0, none⟩) (n / 2) ce, CH[i].2.take (n / 2)) :: (v2, R) :: CH.drop (i + 1)) ∧ flatC (CH.take i ++ (.slice (some ⟨ge, 0, none⟩) (n / 2) ce, CH[i].2.take (n / 2)) :: (v2, R) :: CH.drop (i + 1)) = flatC CH := by
  have hsplit : CH = CH.take i ++ CH[i] :: CH.drop (i + 1) := by rw [← List.drop_eq_getElem_cons hi, List.take_append_drop]
  have hx := List.getElem_mem hi
  have hfl : flatC (CH.take i ++ (.slice (some ⟨ge, 0, none⟩) (n / 2) ce, CH[i].2.take (n / 2)) :: (v2, R) :: CH.drop (i + 1)) = flatC CH := by
    conv => rhs; rw [hsplit]
    rw [flatC_append, flatC_append, flatC_cons, flatC_cons, flatC_cons]
    congr 1
    rw [← List.append_assoc]
    congr 1
    show (CH[i].2.take (n / 2)).map Prod.snd ++ R.map Prod.snd = entsC CH[i]
    rw [hRD, List.map_take]
    exact List.take_append_drop _ _
  have hatc : ∀ b, At (.slice (some ⟨gc, 0, none⟩) CH.length cc) b → b = gc := fun b ⟨_, _, h⟩ => by
    simp only [Value.slice.injEq, Option.some.injEq, Addr.mk.injEq, and_true] at h
    exact h.1.symm
  have hgat : At (.slice (some ⟨gc, 0, none⟩) CH.length cc) gc := ⟨_, _, rfl⟩
  have hold : ∀ x ∈ CH, ∀ b, At x.1 b → G b ∧ b < w.heap.size ∧ b ≠ gc ∧ b ≠ fb := fun x hx b hb => by
    have h1 := (h.e x hx).at hb
    exact ⟨h1.1, h1.2, fun e => h.o x hx b hb (e ▸ hgat), fun e => hfG (e ▸ h1.1)⟩
  have hke : ∀ x ∈ CH, ∀ {m : Nat} {ys : List Value} {u : Value}, (∀ b, At u b → At x.1 b) → Rk 3 G w u m ys → Rk 3 G w3 u m ys := fun x hx m ys u hu hr => by
    have hr' : Rk 3 (fun b => At x.1 b) w u m ys := hr.mono fun b _ ha => hu b ha
    have hr2 : Rk 3 (fun b => At x.1 b) w3 u m ys := (hr'.keep hk fun b hb _ _ e => (hold x hx b hb).2.2.1 e).keep hk3 fun b hb _ _ e => by
      rcases e with e | e
      · exact (hold x hx b hb).2.2.2 e
      · exact (hold x hx b hb).2.2.1 e
    exact hr2.mono fun b hb _ => (hold x hx b hb).1
  have hlk : ∀ {u : Value} {l : List Lab}, LabsAt L w u l → LabsAt L w3 u l := fun hl => (hl.keep hk fun b hb _ e => hLg b hb e).keep hk3 fun b hb _ e => by
    rcases e with e | e
    · exact hLf b hb e
    · exact hLg b hb e
  have htk : ∀ x ∈ CH.take i, x ∈ CH := fun x hx => List.mem_of_mem_take hx
  have hdp : ∀ x ∈ CH.drop (i + 1), x ∈ CH := fun x hx => List.mem_of_mem_drop hx
  have hvh : ∀ b, At (.slice (some ⟨ge, 0, none⟩) (n / 2) ce) b → At CH[i].1 b := fun b ⟨_, _, hb⟩ => by
    rw [hv]
    simp only [Value.slice.injEq, Option.some.injEq, Addr.mk.injEq, and_true] at hb
    exact ⟨_, _, by rw [hb.1]⟩
  have hat2 : ∀ b, At v2 b → wb.heap.size ≤ b ∧ b < C := fun b hb => (hr2.at hb).1
  have hat' : ∀ b, At v' b → b = gc ∨ C ≤ b := fun b hb => (hr.at hb).1.imp (hatc b) id
  have hd := h.d
  rw [hsplit, List.pairwise_append, List.pairwise_cons] at hd
  obtain ⟨hd1, ⟨hd2, hd3⟩, hd4⟩ := hd
  refine ⟨⟨hlk h.l, ?_, fun x hx => ?_, fun x hx => ?_, ?_, fun x hx b hb hb' => ?_, fun x hx => ?_, ?_, ?_⟩, hfl⟩
  · have hlen : (CH.take i ++ (Value.slice (some ⟨ge, 0, none⟩) (n / 2) ce, CH[i].2.take (n / 2)) :: (v2, R) :: CH.drop (i + 1)).length = CH.length + 1 := by
      simp only [List.length_append, List.length_cons, List.length_take, List.length_drop]; omega
    have hmap : ((CH.map Prod.fst).set i (.slice (some ⟨ge, 0, none⟩) (n / 2) ce)).take (i + 1) ++ (v2 :: ((CH.map Prod.fst).set i (.slice (some ⟨ge, 0, none⟩) (n / 2) ce)).drop (i + 1)) = (CH.take i ++ (.slice (some ⟨ge, 0, none⟩) (n / 2) ce, CH[i].2.take (n / 2)) :: (v2, R) :: CH.drop (i + 1)).map Prod.fst := by
      rw [List.set_eq_take_append_cons_drop, if_pos (by rw [List.length_map]; exact hi)]
      have hl : ((CH.map Prod.fst).take i).length = i := by rw [List.length_take, List.length_map]; omega
      rw [(split_at _ _ _ i hl).1, (split_at _ _ _ i hl).2]
      simp [List.map_take, List.map_drop]
    rw [hlen, ← hmap]
    exact hr.mono fun b hb _ => hb.elim (fun h => .inl ((hatc b h) ▸ hGc)) fun h => .inr (by omega)
  · simp only [List.mem_append, List.mem_cons] at hx
    rcases hx with hx | rfl | rfl | hx
    · exact (hke x (htk x hx) (fun _ h => h) (h.e x (htk x hx))).mono fun b hb _ => .inl hb
    · have h3 := h.e _ (List.getElem_mem hi)
      rw [hv, ← hn] at h3
      have h4 := Rk.takeC h3 (n / 2) (by omega)
      rw [flatR_takeP] at h4
      show Rk 3 _ w3 _ (CH[i].2.take (n / 2)).length _
      rw [show (CH[i].2.take (n / 2)).length = n / 2 by rw [List.length_take]; omega]
      exact (hke _ (List.getElem_mem hi) hvh h4).mono fun b hb _ => .inl hb
    · exact hr2.mono fun b hb _ => .inr (by omega)
    · exact (hke x (hdp x hx) (fun _ h => h) (h.e x (hdp x hx))).mono fun b hb _ => .inl hb
  · simp only [List.mem_append, List.mem_cons] at hx
    rcases hx with hx | rfl | rfl | hx
    · exact fun y hy => hlk (h.r x (htk x hx) y hy)
    · exact fun y hy => hlk (h.r _ (List.getElem_mem hi) y (List.mem_of_mem_take hy))
    · exact hR2
    · exact fun y hy => hlk (h.r x (hdp x hx) y hy)
  · rw [List.pairwise_append, List.pairwise_cons, List.pairwise_cons]
    have hnew : ∀ x ∈ CH, ∀ b, At x.1 b → ¬ At v2 b := fun x hx b hb hb2 => by
      have h1 := (hold x hx b hb).2.1
      have h2 := hat2 b hb2
      omega
    refine ⟨hd1, ⟨fun y hy b hb hb2 => ?_, fun y hy b hb hb2 => hnew y (hdp y hy) b hb2 hb, hd3⟩, fun x hx y hy b hb hb2 => ?_⟩
    · simp only [List.mem_cons] at hy
      rcases hy with rfl | hy
      · exact hnew _ (List.getElem_mem hi) b (hvh b hb) hb2
      · exact hd2 y hy b (hvh b hb) hb2
    · simp only [List.mem_cons] at hy
      rcases hy with rfl | rfl | hy
      · exact hd4 x hx _ (List.mem_cons_self ..) b hb (hvh b hb2)
      · exact hnew x (htk x hx) b hb hb2
      · exact hd4 x hx y (List.mem_cons_of_mem _ hy) b hb hb2
  · have hq : b = gc ∨ C ≤ b := hat' b hb'
    simp only [List.mem_append, List.mem_cons] at hx
    have hno : ∀ x ∈ CH, At x.1 b → False := fun x hx hb => by
      have h1 := hold x hx b hb
      rcases hq with e | e
      · exact h1.2.2.1 e
      · omega
    rcases hx with hx | rfl | rfl | hx
    · exact hno x (htk x hx) hb
    · exact hno _ (List.getElem_mem hi) (hvh b hb)
    · have h2 := hat2 b hb
      omega
    · exact hno x (hdp x hx) hb
  · simp only [List.mem_append, List.mem_cons] at hx
    rcases hx with hx | rfl | rfl | hx
    · exact h.n x (htk x hx)
    · intro e
      have := congrArg List.length e
      simp only [List.length_take, List.length_nil] at this
      omega
    · intro e
      have h3 := congrArg List.length hRD
      rw [show R = [] from e] at h3
      rw [List.length_drop, entsC_len] at h3
      simp only [List.map_nil, List.length_nil] at h3
      omega
    · exact h.n x (hdp x hx)
  · rw [hfl]; exact h.s
  · rw [hfl]; exact h.m
set_option maxHeartbeats 8000000 in
set_option maxRecDepth 100000 in
theorem part_any {G L : Nat → Prop} {w : World} {lv cv : Value} {ls : List Lab} {CH : List (Value × List (Value × Ent))} {fb i : Nat} (hf : Bl w fb 207 #[lv, cv]) (h : FlowAt G L w lv cv ls CH) (hi : i < CH.length) (h2 : 2 ≤ CH[i].2.length) (hn : CH.length ≤ 2000) (hm : CH[i].2.length ≤ 2000) (hfG : ¬ G fb) (hfL : ¬ L fb) (hLG : ∀ b, L b → ¬ G b) (hLb : ∀ b, L b → b < w.heap.size) :
    Calls Tryz.prog 155 #[.pointer (some ⟨fb, 0, none⟩), .int .i64 i] w fun r w' => r = .returned (.tuple #[]) ∧ ∃ cv' CH', Bl w' fb 207 #[lv, cv'] ∧ FlowAt (fun b => G b ∨ w.heap.size ≤ b) L w' lv cv' ls CH' ∧ flatC CH' = flatC CH ∧ Keep (fun b => b = fb ∨ G b) w w' := by
  have hmx : Tryz.prog.follows .mixedOrders = true := by kernel_rfl
  have hx := List.getElem_mem hi
  obtain ⟨gc, cc, rfl, hGc, hgc, hcc, hcm, hcs⟩ := h.c.some (by omega)
  have hc0 : w.cell? ⟨gc, i, none⟩ = some CH[i].1 := by rw [hcs i (by omega), List.getElem?_map, List.getElem?_eq_getElem hi]; rfl
  have hcf : w.frozen? ⟨gc, i, none⟩ = false := by
    obtain ⟨_, ⟨h0, _⟩ | ⟨g', c', hv', _, _, _, _, _, hfz⟩⟩ := h.c
    · cases h0
    · simp only [Value.slice.injEq, Option.some.injEq, Addr.mk.injEq, and_true, true_and] at hv'
      obtain ⟨rfl, rfl⟩ := hv'
      exact (hfz i (by omega)).2
  obtain ⟨ge, ce, hv, hGe, hge, hce, hem, _⟩ := (h.e _ hx).some (by omega)
  have hen : EntsAt (fun b => At CH[i].1 b) L w CH[i].1 (entsC CH[i]) := ((h.e _ hx).mono (G' := fun b => At CH[i].1 b) fun k _ ha => ha).ents (h.r _ hx)
  rw [hv] at hc0 hen
  have c1 := hf.cell 1
  simp only [List.getElem?_toArray, List.getElem?_cons_succ, List.getElem?_cons_zero] at c1
  have HH := Lib.hid h
  have HF := Lib.hid hf
  have HV := Lib.hid hv
  obtain ⟨n, hnn⟩ : ∃ n, n = CH[i].2.length := ⟨_, rfl⟩
  rw [← hnn] at hc0 hce h2 hm hen
  have HNN := Lib.hid hnn
  have hi1 : (i : Int) < (CH.length : Int) := by omega
  have hi0 : ¬ (i : Int) < 0 := by omega
  obtain ⟨wb, hwb⟩ : ∃ wb, wb = (w.setCell ⟨gc, i, none⟩ (.slice (some ⟨ge, 0, none⟩) (n / 2) ce)).drew := ⟨_, rfl⟩
  have hk2 : Keep (fun b => b = gc) w wb := by rw [hwb]; exact (keep_set12 (Keep.refl _ w) i _).drew
  have hs2 : wb.heap.size = w.heap.size := by rw [hwb]; simp [World.setCell, World.drew]
  have hrk2 : Rk 1 G wb (.slice (some ⟨gc, 0, none⟩) CH.length cc) CH.length ((CH.map Prod.fst).set i (.slice (some ⟨ge, 0, none⟩) (n / 2) ce)) := by rw [hwb]; exact (Rk.setC h.c i hi _).drew
  have hne : ge ≠ gc := fun e => h.o _ hx ge ⟨_, _, hv⟩ ⟨_, _, by rw [e]⟩
  have hfc : fb ≠ gc := fun e => hfG (e ▸ hGc)
  have hf2 : Bl wb fb 207 #[lv, .slice (some ⟨gc, 0, none⟩) CH.length cc] := (hk2.block fb hf.lt hfc).trans hf
  have hen2 : EntsAt (fun b => At (.slice (some ⟨ge, 0, none⟩) n ce) b) L wb (.slice (some ⟨ge, 0, none⟩) n ce) (entsC CH[i]) := hen.keep hk2 fun b hb _ e => by
    rcases hb with ⟨_, _, hb⟩ | hb
    · simp only [Value.slice.injEq, Option.some.injEq, Addr.mk.injEq, and_true] at hb
      omega
    · exact hLG b hb (by rw [e]; exact hGc)
  have hdr := hen2.drop (n / 2) (ce - n / 2)
  rw [Nat.zero_add] at hdr
  have hlD : ((entsC CH[i]).drop (n / 2)).length ≤ 1000000 := by rw [List.length_drop, entsC_len]; omega
  have HW2 := Lib.hid hwb.symm
  have HK2 := Lib.hid hk2
  have HS2 := Lib.hid hs2
  have HRK2 := Lib.hid hrk2
  have HF2 := Lib.hid hf2
  obtain ⟨DD, hDD⟩ : ∃ D, D = (entsC CH[i]).drop (n / 2) := ⟨_, rfl⟩
  rw [← hDD] at hdr hlD
  have HDD := Lib.hid hDD
  have hb4 : ¬ (ce = n / 2) := by omega
  have hb0 : (0 : Int) ≤ (n : Int) / 2 := by omega
  have hb3 : (n : Int) / 2 ≤ (n : Int) := by omega
  have htn : ((n : Int) / 2).toNat = n / 2 := by omega
  have HCL : Hid (∀ W1, Lay wb.drew W1 → Calls Tryz.prog 88 #[.slice (some ⟨ge, n / 2 * 3, none⟩) (n - n / 2) (ce - n / 2)] W1 fun r w' => ∃ v' R, r = .returned v' ∧ Rk 3 (fun k => W1.heap.size ≤ k) w' v' R.length (flatR R) ∧ RawL L w' R ∧ R.map Prod.snd = DD ∧ Lay W1 w') := Lib.hid fun W1 hW =>
    (clone_any ((hdr.lay ((Keep.refl (fun _ => False) wb).drew)).lay hW) hlD).mono fun r w' ⟨v', R, h1, h2, h3, h4, h5⟩ => ⟨v', R, h1, by have hl := congrArg List.length h3; rw [List.length_map] at hl; rw [hl]; exact h2, h4, h3, h5⟩
  have hgl : gc < wb.drew.heap.size := by show gc < wb.heap.size; omega
  have HGL := Lib.hid hgl
  have HNE := Lib.hid (And.intro hfc (And.intro hf.lt hgc))
  have hx1 : ∀ u ∈ (CH.map Prod.fst).set i (.slice (some ⟨ge, 0, none⟩) (n / 2) ce), u.oneCell' = true := fun u hu => by
    rcases List.mem_or_eq_of_mem_set hu with hu | rfl
    · obtain ⟨x, hx, rfl⟩ := List.mem_map.1 hu
      obtain ⟨a, c, ha⟩ := (h.e x hx).shape
      rw [ha]; rfl
    · rfl
  have HX1 := Lib.hid hx1
  have hxl : ((CH.map Prod.fst).set i (.slice (some ⟨ge, 0, none⟩) (n / 2) ce)).length = CH.length := by rw [List.length_set, List.length_map]
  generalize hxs : (CH.map Prod.fst).set i (.slice (some ⟨ge, 0, none⟩) (n / 2) ce) = xs2 at HRK2 HX1 hxl
  have HXS := Lib.hid hxs
  have hi2 : IntKind.i64.wrap ((i : Int) + 1) = (i : Int) + 1 := by rw [IntKind.wrap_i64]; omega
  have HI0 := Lib.hid hi
  have HLL : Hid (∀ b, L b → ¬ b = gc) := Lib.hid fun b hb e => hLG b hb (by rw [e]; exact hGc)
  have HLF : Hid (∀ b, L b → ¬ b = fb) := Lib.hid fun b hb e => hfL (e ▸ hb)
  clear h hv hnn hcs hwb hk2 hs2 hrk2 hf2 hen hen2 hdr hlD hx1 hxl hxs hx hf hDD
  go_enter Tryz.func155, Tryz.ntmps155
  go_upto_region 2 with fail
  go_region
  rw [HW2.out]
  clear c1 hc0 hcf
  have hfl2 : fb < wb.drew.heap.size := HF2.out.lt
  go_upto_region 3 with fail
  refine (wpIn_wide (n := 9)).1 ?_
  refine H3.wpIn_region_flow (fun _ => trivial) (by kernel_rfl) (LW 12 15 wb.drew (fun b => b = fb ∨ b = gc) (PO wb.drew.heap.size L DD (.slice (some ⟨gc, 0, none⟩) CH.length cc) CH.length i xs2) (fun W => Bl W fb 207 #[lv, .slice (some ⟨gc, 0, none⟩) CH.length cc]) (fun v W => Bl W fb 207 #[lv, v])) (fun i _ W1 W2 => i = 12 ∨ i = 15 ∨ Lay W1 W2) (GV [some (.pointer (some ⟨fb, 0, none⟩)), some (.pointer (some ⟨fb, 0, none⟩)), some (.pointer (some ⟨fb, 0, none⟩)), some (.pointer (some ⟨fb, 1, none⟩)), some (.slice (some ⟨gc, 0, none⟩) CH.length cc), some (.int .i64 (i : Int)), some (.int .i64 ((i : Int) + 1)), some (.slice (some ⟨ge, 0, none⟩) n ce), some (.int .i64 ((n : Int) / 2)), some (.slice (some ⟨ge, n / 2 * 3, none⟩) (n - n / 2) (ce - n / 2)), none, none, none, some (.pointer (some ⟨fb, 0, none⟩)), some (.pointer (some ⟨fb, 1, none⟩)), none] [10, 11] (PV wb.drew.heap.size L DD)) (fun j => false) (by kernel_rfl) (by kernel_rfl) ?hst (LW.start HF2.out rfl rfl) ?step ?fin
  case hst =>
    intro i j ys v w1 w2 hij hanc hned hV hR
    by_cases hj10 : j = 10
    · subst hj10
      rcases hR with rfl | rfl | hR
      · cases hned.symm.trans (by kernel_rfl : _ = false)
      · cases hned.symm.trans (by kernel_rfl : _ = false)
      · exact GV.keep (sp := PV wb.drew.heap.size L DD) (fun _ _ _ _ h hb => PV.below h hb) hij hV (lay_below hR)
    by_cases hj11 : j = 11
    · subst hj11
      rcases hR with rfl | rfl | hR
      · cases hned.symm.trans (by kernel_rfl : _ = false)
      · cases hned.symm.trans (by kernel_rfl : _ = false)
      · exact GV.keep (sp := PV wb.drew.heap.size L DD) (fun _ _ _ _ h hb => PV.below h hb) hij hV (lay_below hR)
    exact gvq_keep (by simp; omega) hij hV
  case step =>
    refine ⟨?_, ?_, ?_, ?_, ?_, ?_, ?_, ?_, ?_, ?_, ?_, ?_, ?_, ?_, ?_, ?_, trivial⟩
    · intro listed ys X W1 hsz hsd hi2 hall hX hI hd K hK
      have e0 : X.tmps.getD 0 undef = .pointer (some ⟨fb, 0, none⟩) := hX 0 (Nat.le_of_ble_eq_true rfl)
      have HI := Lib.hid hI
      refine H3.step_run (.inl rfl) ?_
      clear hX hd hI
      go_simp
      exact hK _ _ (HI.out.other (PO.stay) (bl_stay _ _ _) (fun _ => bl_stay _ _ _) (Keep.refl _ _) (by decide) (by decide) _) (.inr (.inr (Keep.refl _ _))) (GV.of (by decide) (fun u h => by cases h; rfl))
    · intro listed ys X W1 hsz hsd hi2 hall hX hI hd K hK
      have e0 : X.tmps.getD 0 undef = .pointer (some ⟨fb, 0, none⟩) := hX 0 (Nat.le_of_ble_eq_true rfl)
      have HI := Lib.hid hI
      refine H3.step_run (.inl rfl) ?_
      clear hX hd hI
      go_simp
      exact hK _ _ (HI.out.other (PO.stay) (bl_stay _ _ _) (fun _ => bl_stay _ _ _) (Keep.refl _ _) (by decide) (by decide) _) (.inr (.inr (Keep.refl _ _))) (GV.of (by decide) (fun u h => by cases h; rfl))
    · intro listed ys X W1 hsz hsd hi2 hall hX hI hd K hK
      have e26 : X.tmps.getD 26 undef = .pointer (some ⟨fb, 0, none⟩) := (hX 26 (Nat.le_of_ble_eq_true rfl)).trans (GV.val (hd ⟨1, .data⟩ (by simp) rfl) (by decide) rfl)
      have HI := Lib.hid hI
      refine H3.step_run (.inl rfl) ?_
      clear hX hd hI
      go_simp
      exact hK _ _ (HI.out.other (PO.stay) (bl_stay _ _ _) (fun _ => bl_stay _ _ _) (Keep.refl _ _) (by decide) (by decide) _) (.inr (.inr (Keep.refl _ _))) (GV.of (by decide) (fun u h => by cases h; rfl))
    · intro listed ys X W1 hsz hsd hi2 hall hX hI hd K hK
      have e27 : X.tmps.getD 27 undef = .pointer (some ⟨fb, 0, none⟩) := (hX 27 (Nat.le_of_ble_eq_true rfl)).trans (GV.val (hd ⟨2, .data⟩ (by simp) rfl) (by decide) rfl)
      have HI := Lib.hid hI
      refine H3.step_run (.inl rfl) ?_
      clear hX hd hI
      go_simp
      exact hK _ _ (HI.out.other (PO.stay) (bl_stay _ _ _) (fun _ => bl_stay _ _ _) (Keep.refl _ _) (by decide) (by decide) _) (.inr (.inr (Keep.refl _ _))) (GV.of (by decide) (fun u h => by cases h; rfl))
    · intro listed ys X W1 hsz hsd hi2 hall hX hI hd K hK
      have e28 : X.tmps.getD 28 undef = .pointer (some ⟨fb, 1, none⟩) := (hX 28 (Nat.le_of_ble_eq_true rfl)).trans (GV.val (hd ⟨3, .data⟩ (by simp) rfl) (by decide) rfl)
      have hc := hI.p (H3.not_yet hsd hi2 (c := 15) (by kernel_rfl))
      have k1 := hc.cell 1
      simp only [List.getElem?_toArray, List.getElem?_cons_succ, List.getElem?_cons_zero] at k1
      clear hc
      have HI := Lib.hid hI
      refine H3.step_run (.inl rfl) ?_
      clear hX hd hI
      go_simp
      exact hK _ _ (HI.out.other (PO.stay) (bl_stay _ _ _) (fun _ => bl_stay _ _ _) (Keep.refl _ _) (by decide) (by decide) _) (.inr (.inr (Keep.refl _ _))) (GV.of (by decide) (fun u h => by cases h; rfl))
    · intro listed ys X W1 hsz hsd hi2 hall hX hI hd K hK
      have e1 : X.tmps.getD 1 undef = .int .i64 (i : Int) := hX 1 (Nat.le_of_ble_eq_true rfl)
      have HI := Lib.hid hI
      refine H3.step_run (.inl rfl) ?_
      clear hX hd hI
      go_simp
      exact hK _ _ (HI.out.other (PO.stay) (bl_stay _ _ _) (fun _ => bl_stay _ _ _) (Keep.refl _ _) (by decide) (by decide) _) (.inr (.inr (Keep.refl _ _))) (GV.of (by decide) (fun u h => by cases h; rfl))
    · intro listed ys X W1 hsz hsd hi2 hall hX hI hd K hK
      have e30 : X.tmps.getD 30 undef = .int .i64 (i : Int) := (hX 30 (Nat.le_of_ble_eq_true rfl)).trans (GV.val (hd ⟨5, .data⟩ (by simp) rfl) (by decide) rfl)
      have HI := Lib.hid hI
      refine H3.step_run (.inl rfl) ?_
      clear hX hd hI
      go_simp
      exact hK _ _ (HI.out.other (PO.stay) (bl_stay _ _ _) (fun _ => bl_stay _ _ _) (Keep.refl _ _) (by decide) (by decide) _) (.inr (.inr (Keep.refl _ _))) (GV.of (by decide) (fun u h => by cases h; rfl))
    · intro listed ys X W1 hsz hsd hi2 hall hX hI hd K hK
      have e4 : X.tmps.getD 4 undef = .slice (some ⟨ge, 0, none⟩) n ce := hX 4 (Nat.le_of_ble_eq_true rfl)
      have HI := Lib.hid hI
      refine H3.step_run (.inl rfl) ?_
      clear hX hd hI
      go_simp
      exact hK _ _ (HI.out.other (PO.stay) (bl_stay _ _ _) (fun _ => bl_stay _ _ _) (Keep.refl _ _) (by decide) (by decide) _) (.inr (.inr (Keep.refl _ _))) (GV.of (by decide) (fun u h => by cases h; rfl))
    · intro listed ys X W1 hsz hsd hi2 hall hX hI hd K hK
      have e5 : X.tmps.getD 5 undef = .int .i64 ((n : Int) / 2) := hX 5 (Nat.le_of_ble_eq_true rfl)
      have HI := Lib.hid hI
      refine H3.step_run (.inl rfl) ?_
      clear hX hd hI
      go_simp
      exact hK _ _ (HI.out.other (PO.stay) (bl_stay _ _ _) (fun _ => bl_stay _ _ _) (Keep.refl _ _) (by decide) (by decide) _) (.inr (.inr (Keep.refl _ _))) (GV.of (by decide) (fun u h => by cases h; rfl))
    · intro listed ys X W1 hsz hsd hi2 hall hX hI hd K hK
      have e32 : X.tmps.getD 32 undef = .slice (some ⟨ge, 0, none⟩) n ce := (hX 32 (Nat.le_of_ble_eq_true rfl)).trans (GV.val (hd ⟨7, .data⟩ (by simp) rfl) (by decide) rfl)
      have e33 : X.tmps.getD 33 undef = .int .i64 ((n : Int) / 2) := (hX 33 (Nat.le_of_ble_eq_true rfl)).trans (GV.val (hd ⟨8, .data⟩ (by simp) rfl) (by decide) rfl)
      have HI := Lib.hid hI
      refine H3.step_run (.inl rfl) ?_
      clear hX hd hI
      go_simp
      exact hK _ _ (HI.out.other (PO.stay) (bl_stay _ _ _) (fun _ => bl_stay _ _ _) (Keep.refl _ _) (by decide) (by decide) _) (.inr (.inr (Keep.refl _ _))) (GV.of (by decide) (fun u h => by cases h; rfl))
    · intro listed ys X W1 hsz hsd hi2 hall hX hI hd K hK
      have e34 : X.tmps.getD 34 undef = .slice (some ⟨ge, n / 2 * 3, none⟩) (n - n / 2) (ce - n / 2) := (hX 34 (Nat.le_of_ble_eq_true rfl)).trans (GV.val (hd ⟨9, .data⟩ (by simp) rfl) (by decide) rfl)
      have hl := hI.a (H3.not_yet hsd hi2 (c := 12) (by kernel_rfl))
      have HI := Lib.hid hI
      refine H3.step_run (.inl rfl) ?_
      clear hX hd hI
      go_simp
      refine ⟨trivial, (callsIn_wide.2 (HCL.out W1 hl)).mono ?_⟩
      rintro x w7 ⟨v2, R, rfl, hrk, hraw, hR, hl7⟩
      exact hK _ _ (HI.out.other (PO.stay) (bl_stay _ _ _) (fun _ => bl_stay _ _ _) hl7 (by decide) (by decide) _) (.inr (.inr hl7)) (GV.ofsp (by decide) (show PV wb.drew.heap.size L DD 10 v2 w7 from ⟨R, hrk.mono fun b hb _ => Nat.le_trans hl.size hb, hraw, hR⟩))
    · intro listed ys X W1 hsz hsd hi2 hall hX hI hd K hK
      have e35 : X.tmps.getD 35 undef = ys 10 := hX 35 (Nat.le_of_ble_eq_true rfl)
      have hv10 := GV.spv (hd ⟨10, .data⟩ (by simp) rfl) (by decide)
      have hl := hI.a (H3.not_yet hsd hi2 (c := 12) (by kernel_rfl))
      have HI := Lib.hid hI
      obtain ⟨R, hrk, hraw, hR⟩ : ∃ R : List (Value × Ent), Rk 3 (fun b => wb.drew.heap.size ≤ b) W1 (ys 10) R.length (flatR R) ∧ RawL L W1 R ∧ R.map Prod.snd = DD := hv10
      have e35' : X.tmps[35]?.getD undef = ys 10 := by rw [← Array.getD_eq_getD_getElem?]; exact e35
      obtain ⟨a3, c3, hsh⟩ := hrk.shape
      rw [hsh] at e35 e35'
      have HRK3 := Lib.hid hrk
      have HRW := Lib.hid (And.intro hraw hR)
      have HSH := Lib.hid hsh
      have HLW := Lib.hid hl
      refine H3.step_run (.inl rfl) ?_
      clear hX hd hI hrk hraw hR hl hsh
      go_simp
      exact hK _ _ (HI.out.other (PO.stay) (bl_stay _ _ _) (fun _ => bl_stay _ _ _) ((Keep.refl _ _).alloc _) (by decide) (by decide) _) (.inr (.inr ((Keep.refl _ _).alloc _))) (GV.ofsp (by decide) (show PV wb.drew.heap.size L DD 11 _ _ from ⟨W1.heap.size, _, R, rfl, HLW.out.size, Bl.new W1 43 _, by rw [← HSH.out]; exact (HRK3.out.alloc _).mono fun b hb ha => ⟨hb, (HRK3.out.at ha).2⟩, HRW.out.1.lay ((Keep.refl _ _).alloc _), HRW.out.2⟩))
    · intro listed ys X W1 hsz hsd hi2 hall hX hI hd K hK
      have e29 : X.tmps.getD 29 undef = .slice (some ⟨gc, 0, none⟩) CH.length cc := (hX 29 (Nat.le_of_ble_eq_true rfl)).trans (GV.val (hd ⟨4, .data⟩ (by simp) rfl) (by decide) rfl)
      have e31 : X.tmps.getD 31 undef = .int .i64 ((i : Int) + 1) := (hX 31 (Nat.le_of_ble_eq_true rfl)).trans (GV.val (hd ⟨6, .data⟩ (by simp) rfl) (by decide) rfl)
      have e36 : X.tmps.getD 36 undef = ys 11 := hX 36 (Nat.le_of_ble_eq_true rfl)
      have hv11 := GV.spv (hd ⟨11, .data⟩ (by simp) rfl) (by decide)
      have hl := hI.a hi2
      have h15 := H3.not_yet hsd hi2 (c := 15) (by kernel_rfl)
      have HI := Lib.hid hI
      obtain ⟨A, v2, R, hv, hA, hbl, hrk, hraw, hR⟩ : ∃ (A : Nat) (v2 : Value) (R : List (Value × Ent)), ys 11 = .slice (some ⟨A, 0, none⟩) 1 1 ∧ wb.drew.heap.size ≤ A ∧ Bl W1 A 43 #[v2] ∧ Rk 3 (fun b => wb.drew.heap.size ≤ b ∧ b < A) W1 v2 R.length (flatR R) ∧ RawL L W1 R ∧ R.map Prod.snd = DD := hv11
      rw [hv] at e36
      have HIN := Lib.hid (insC_any (i := i + 1) ((HRK2.out.drew).lay hl) HX1.out (us := [v2]) hbl rfl (fun u hu => by rw [List.mem_singleton] at hu; rw [hu]; obtain ⟨a, c, h⟩ := hrk.shape; rw [h]; rfl) (fun ⟨_, _, h⟩ => by simp only [Value.slice.injEq, Option.some.injEq, Addr.mk.injEq, and_true] at h; have := HGL.out; omega) (by have := HI0.out; omega) (by omega))
      simp only [Nat.mul_one] at HIN
      rw [show (((i + 1 : Nat) : Int)) = (i : Int) + 1 by omega] at HIN
      have HALL := Lib.hid (And.intro hl (And.intro hA (And.intro hbl.lt (And.intro hrk (And.intro hraw hR)))))
      refine H3.step_run (.inl rfl) ?_
      clear hX hd hI hl hA hbl hrk hraw hR hv
      go_simp
      refine ⟨trivial, (callsIn_wide.2 (HIN.out)).mono ?_⟩
      rintro x w7 ⟨v7, rfl, hr7, hk7⟩
      obtain ⟨hl, hA, hAl, hrk, hraw, hR⟩ := HALL.out
      have hat : ∀ b, At (.slice (some ⟨gc, 0, none⟩) CH.length cc) b → b = gc := fun b ⟨_, _, h⟩ => by simp only [Value.slice.injEq, Option.some.injEq, Addr.mk.injEq, and_true] at h; exact h.1.symm
      have hgl' := HGL.out
      refine hK _ _ (HI.out.call (by decide) (by rw [hsz]; decide) h15 (HI.out.k.trans (hk7.into fun b _ h => .inr (hat b h))) ⟨W1.heap.size, v2, R, hl.size, (hrk.mono (G' := fun b => wb.drew.heap.size ≤ b ∧ b < W1.heap.size) fun b hb _ => ⟨hb.1, by omega⟩).keep hk7 (fun b hb _ _ h => by have := hat b h; omega), hraw.keep hk7 (fun b hb _ h => HLL.out b hb (hat b h)), hR, hr7⟩ ?_) (.inl rfl) (GV.of (by decide) (fun u h => by cases h))
      exact (hk7.block fb (HI.out.p h15).lt fun h => HNE.out.1 (hat fb h)).trans (HI.out.p h15)
    · intro listed ys X W1 hsz hsd hi2 hall hX hI hd K hK
      have e25 : X.tmps.getD 25 undef = .pointer (some ⟨fb, 0, none⟩) := (hX 25 (Nat.le_of_ble_eq_true rfl)).trans (GV.val (hd ⟨0, .data⟩ (by simp) rfl) (by decide) rfl)
      have HI := Lib.hid hI
      refine H3.step_run (.inl rfl) ?_
      clear hX hd hI
      go_simp
      exact hK _ _ (HI.out.other (PO.stay) (bl_stay _ _ _) (fun _ => bl_stay _ _ _) (Keep.refl _ _) (by decide) (by decide) _) (.inr (.inr (Keep.refl _ _))) (GV.of (by decide) (fun u h => by cases h; rfl))
    · intro listed ys X W1 hsz hsd hi2 hall hX hI hd K hK
      have e38 : X.tmps.getD 38 undef = .pointer (some ⟨fb, 0, none⟩) := (hX 38 (Nat.le_of_ble_eq_true rfl)).trans (GV.val (hd ⟨13, .data⟩ (by simp) rfl) (by decide) rfl)
      have HI := Lib.hid hI
      refine H3.step_run (.inl rfl) ?_
      clear hX hd hI
      go_simp
      exact hK _ _ (HI.out.other (PO.stay) (bl_stay _ _ _) (fun _ => bl_stay _ _ _) (Keep.refl _ _) (by decide) (by decide) _) (.inr (.inr (Keep.refl _ _))) (GV.of (by decide) (fun u h => by cases h; rfl))
    · intro listed ys X W1 hsz hsd hi2 hall hX hI hd K hK
      have e39 : X.tmps.getD 39 undef = .pointer (some ⟨fb, 1, none⟩) := (hX 39 (Nat.le_of_ble_eq_true rfl)).trans (GV.val (hd ⟨14, .data⟩ (by simp) rfl) (by decide) rfl)
      have e37 : X.tmps.getD 37 undef = ys 12 := hX 37 (Nat.le_of_ble_eq_true rfl)
      have h12 := hall ⟨12, .data⟩ (by simp) rfl
      have hs15 : 15 < listed.size := by rw [hsz]; decide
      have hc := hI.p hi2
      obtain ⟨C, v2, R, hC, hrk, hraw, hR, hr⟩ := hI.b h12
      obtain ⟨a3, c3, hsh⟩ := hr.shape
      have hset := hc.set12 1 (ys 12)
      simp only [List.setIfInBounds_toArray, List.set_cons_zero, List.set_cons_succ] at hset
      have hks : Keep (fun k => k = fb) W1 (W1.setCell ⟨fb, 1, none⟩ (ys 12)) := keep_set12 (Keep.refl _ _) 1 _
      have hfl' := HNE.out.2.1
      have hw2s := HS2.out
      have hdw : wb.drew.heap.size = wb.heap.size := rfl
      have HN := Lib.hid (hI.store (u := undef) (W' := W1.setCell ⟨fb, 1, none⟩ (ys 12)) (by decide) hs15 h12 (hI.k.trans (hks.into fun b _ h => .inl h)) ⟨C, v2, R, hC, hrk.keep hks (fun b hb _ _ h => by omega), hraw.keep hks (fun b hb _ h => HLF.out b hb h), hR, hr.keep hks (fun b hb _ _ h => by
          rcases hb with ⟨_, _, hb⟩ | hb
          · simp only [Value.slice.injEq, Option.some.injEq, Addr.mk.injEq, and_true] at hb
            exact HNE.out.1 (h.symm.trans hb.1.symm)
          · omega)⟩ hset)
      have k1 := hc.cell 1
      have z1 := hc.frozen 1
      simp only [List.getElem?_toArray, List.getElem?_cons_succ, List.getElem?_cons_zero] at k1
      refine H3.step_run (.inl rfl) ?_
      rw [hsh] at e37 HN
      clear hX hd hI hset hks hc hr hrk hraw hR
      go_simp
      exact hK _ _ HN.out (.inr (.inl rfl)) (GV.of (by decide) (fun u h => by cases h))
  case fin =>
    intro listed ys w3 hall hI _
    obtain ⟨C, v2, R, hC, hr2, hR2, hRD, hr⟩ := hI.b (hall 12 (by decide))
    have hq := hI.q (hall 15 (by decide))
    have hk3 : Keep (fun b => b = fb ∨ b = gc) wb w3 := ((Keep.refl _ wb).drew).trans hI.k
    rw [HDD.out] at hRD
    rw [← HXS.out] at hr
    have hend := part_end HH.out hi (by have := HV.out; rw [← HNN.out] at this; exact this) HNN.out h2 hfG HLL.out HLF.out hgc HS2.out HK2.out hk3 hC hr2 hR2 hRD hr hGc
    have HE := Lib.hid hend
    have HQ := Lib.hid hq
    have HK3 := Lib.hid hk3
    clear hall hI hr2 hR2 hRD hr hend hq hk3
    simp only [H3.putsFrom]
    simp only [Act.put, List.setIfInBounds_toArray, List.set_cons_succ, List.set_cons_zero]
    go_wp2_with fail
    refine bodyPost_end (results_none rfl _ _ _) rfl ⟨rfl, ?_⟩
    have hkk : Keep (fun b => b = fb ∨ G b) w w3 := Keep.trans (HK2.out.into fun b _ e => .inr (by rw [e]; exact hGc)) (HK3.out.into fun b _ e => e.imp id fun e => by rw [e]; exact hGc)
    exact ⟨_, HQ.out, _, HE.out.1, HE.out.2, hkk⟩
end Go.Proofs.YtoobjjpheegmdaaGreat.E4
