/-
  Inner: THE ITERATOR OVER THE INNER WORDS OF A TEXT, over the iterator over all words' places.
-/
import Derived.Test.YtgjlbcmejanfaaaDoorWordsIt
namespace Go.Proofs.YtgjlbcmejanfaaaDoor
open Go.RowKit Go Go.Shelf

attribute [local go_sem] Oper.semAt_some wide_fn wide_depth

/-- What the operations leave: the word is within. -/
def IVy (y : Value) (s : ByteArray) (a b : Nat) (t : ByteArray) : Nat → (Nat → Value) → World → Prop
  | 0, ys, _ => ys 0 = .int .i64 a
  | 1, ys, _ => ys 1 = .bool true
  | 2, ys, _ => ys 2 = .bool true
  | 3, ys, _ => ys 3 = .int .i64 b
  | 4, ys, _ => ys 4 = .string s
  | 5, ys, _ => ys 5 = .int .i64 s.size
  | 6, ys, _ => ys 6 = .bool true
  | 7, ys, _ => ys 7 = .bool true
  | 8, ys, _ => ys 8 = .bool true
  | 9, ys, _ => ys 9 = y
  | 10, ys, _ => ys 10 = .string s
  | 11, ys, _ => ys 11 = .int .i64 a
  | 12, ys, _ => ys 12 = .int .i64 b
  | 13, ys, _ => ys 13 = .string t
  | 15, ys, _ => ∃ c : Bool, ys 14 = .bool c ∧ ys 15 = .bool (!c)
  | 16, ys, _ => ∃ c : Bool, ys 14 = .bool c ∧ ys 16 = .bool (!c)
  | _, _, _ => True
theorem IVy_st {y : Value} {s : ByteArray} {a b : Nat} {t : ByteArray} {i : Nat} (ys : Nat → Value) (v : Value) (w w2 : World) : ∀ j, i ≠ j → (i = 14 → j ≠ 15 ∧ j ≠ 16) → IVy y s a b t j ys w → IVy y s a b t j (upd ys i v) w2 := by
  intro j hij h14 hV
  match j, hV with
  | 0, hV => exact (upd_other ys v (Ne.symm hij)).trans hV
  | 1, hV => exact (upd_other ys v (Ne.symm hij)).trans hV
  | 2, hV => exact (upd_other ys v (Ne.symm hij)).trans hV
  | 3, hV => exact (upd_other ys v (Ne.symm hij)).trans hV
  | 4, hV => exact (upd_other ys v (Ne.symm hij)).trans hV
  | 5, hV => exact (upd_other ys v (Ne.symm hij)).trans hV
  | 6, hV => exact (upd_other ys v (Ne.symm hij)).trans hV
  | 7, hV => exact (upd_other ys v (Ne.symm hij)).trans hV
  | 8, hV => exact (upd_other ys v (Ne.symm hij)).trans hV
  | 9, hV => exact (upd_other ys v (Ne.symm hij)).trans hV
  | 10, hV => exact (upd_other ys v (Ne.symm hij)).trans hV
  | 11, hV => exact (upd_other ys v (Ne.symm hij)).trans hV
  | 12, hV => exact (upd_other ys v (Ne.symm hij)).trans hV
  | 13, hV => exact (upd_other ys v (Ne.symm hij)).trans hV
  | 14, hV => trivial
  | 15, hV =>
    obtain ⟨c, h5, h6⟩ := hV
    exact ⟨c, (upd_other ys v (fun e => by have := h14 e.symm; omega)).trans h5, (upd_other ys v (Ne.symm hij)).trans h6⟩
  | 16, hV =>
    obtain ⟨c, h5, h6⟩ := hV
    exact ⟨c, (upd_other ys v (fun e => by have := h14 e.symm; omega)).trans h5, (upd_other ys v (Ne.symm hij)).trans h6⟩
  | _ + 17, hV => trivial

/-- It touches the text's beginning. -/
def IVn (y : Value) (s : ByteArray) (a b : Nat) (t : ByteArray) : Nat → (Nat → Value) → World → Prop
  | 0, ys, _ => ys 0 = .int .i64 a
  | 1, ys, _ => ys 1 = .bool false
  | 2, ys, _ => ys 2 = .bool false
  | 7, ys, _ => ys 7 = .bool false
  | 8, ys, _ => ys 8 = .bool false
  | 16, ys, _ => ys 16 = .bool false
  | _, _, _ => True
theorem IVn_st {y : Value} {s : ByteArray} {a b : Nat} {t : ByteArray} {i : Nat} (ys : Nat → Value) (v : Value) (w w2 : World) : ∀ j, i ≠ j → (i = 14 → j ≠ 15 ∧ j ≠ 16) → IVn y s a b t j ys w → IVn y s a b t j (upd ys i v) w2 := by
  intro j hij h14 hV
  match j, hV with
  | 0, hV => exact (upd_other ys v (Ne.symm hij)).trans hV
  | 1, hV => exact (upd_other ys v (Ne.symm hij)).trans hV
  | 2, hV => exact (upd_other ys v (Ne.symm hij)).trans hV
  | 3, hV => trivial
  | 4, hV => trivial
  | 5, hV => trivial
  | 6, hV => trivial
  | 7, hV => exact (upd_other ys v (Ne.symm hij)).trans hV
  | 8, hV => exact (upd_other ys v (Ne.symm hij)).trans hV
  | 9, hV => trivial
  | 10, hV => trivial
  | 11, hV => trivial
  | 12, hV => trivial
  | 13, hV => trivial
  | 14, hV => trivial
  | 15, hV => trivial
  | 16, hV => exact (upd_other ys v (Ne.symm hij)).trans hV
  | _ + 17, hV => trivial

/-- It touches its end. -/
def IVm (y : Value) (s : ByteArray) (a b : Nat) (t : ByteArray) : Nat → (Nat → Value) → World → Prop
  | 0, ys, _ => ys 0 = .int .i64 a
  | 1, ys, _ => ys 1 = .bool true
  | 2, ys, _ => ys 2 = .bool true
  | 3, ys, _ => ys 3 = .int .i64 b
  | 4, ys, _ => ys 4 = .string s
  | 5, ys, _ => ys 5 = .int .i64 s.size
  | 6, ys, _ => ys 6 = .bool false
  | 7, ys, _ => ys 7 = .bool false
  | 8, ys, _ => ys 8 = .bool false
  | 16, ys, _ => ys 16 = .bool false
  | _, _, _ => True
theorem IVm_st {y : Value} {s : ByteArray} {a b : Nat} {t : ByteArray} {i : Nat} (ys : Nat → Value) (v : Value) (w w2 : World) : ∀ j, i ≠ j → (i = 14 → j ≠ 15 ∧ j ≠ 16) → IVm y s a b t j ys w → IVm y s a b t j (upd ys i v) w2 := by
  intro j hij h14 hV
  match j, hV with
  | 0, hV => exact (upd_other ys v (Ne.symm hij)).trans hV
  | 1, hV => exact (upd_other ys v (Ne.symm hij)).trans hV
  | 2, hV => exact (upd_other ys v (Ne.symm hij)).trans hV
  | 3, hV => exact (upd_other ys v (Ne.symm hij)).trans hV
  | 4, hV => exact (upd_other ys v (Ne.symm hij)).trans hV
  | 5, hV => exact (upd_other ys v (Ne.symm hij)).trans hV
  | 6, hV => exact (upd_other ys v (Ne.symm hij)).trans hV
  | 7, hV => exact (upd_other ys v (Ne.symm hij)).trans hV
  | 8, hV => exact (upd_other ys v (Ne.symm hij)).trans hV
  | 9, hV => trivial
  | 10, hV => trivial
  | 11, hV => trivial
  | 12, hV => trivial
  | 13, hV => trivial
  | 14, hV => trivial
  | 15, hV => trivial
  | 16, hV => exact (upd_other ys v (Ne.symm hij)).trans hV
  | _ + 17, hV => trivial

set_option maxHeartbeats 4000000 in
set_option maxRecDepth 100000 in
theorem inner_gives (s : ByteArray) (hlen : s.size ≤ 70368744177664) (B : Nat) (w : World) (hB : Box w B 9 (.string s)) :
    Gives Tryd.prog 20 #[.pointer (some ⟨B, 0, none⟩)] (fun k => k = B) encS (((M.places s.data.toList).filter (M.within s.data.toList)).map (pc s)) w := by
  intro l J Jx G W hW hCG hJ hJx hY h0 hlive
  have hBW := hB.keep hW (fun h => h rfl)
  have hGB := hCG B rfl
  have hcB := hBW.cell
  have hGR : ¬ G W.heap.size := fun h => by have := hlive _ h; omega
  have hBlt := hBW.lt
  refine (callsIn_wide (n := 9)).1 ?_
  refine callsIn_of_wp_marks Tryd.func20 rfl trivial ?_
  simp only [Tryd.ntmps20, List.size_toArray, List.length_cons, List.length_nil, Nat.reduceAdd, Nat.reduceSub, Array.replicate_succ, Array.replicate_zero, List.push_toArray, List.append_toArray, List.nil_append, List.cons_append]
  gi_wp2_with (gi_at_call 19; refine (callsIn_wide.2 (places_any s _)).mono ?_; rintro e w' ⟨rfl, rfl⟩)
  have hY1 : Box (W.alloc (.cells #[.func (.yield l) #[] #[]] 31)) W.heap.size 31 (.func (.yield l) #[] #[]) := Box.new W 31 _
  have hB2 := Box.new (W.alloc (.cells #[.func (.yield l) #[] #[]] 31)) 9 (.string s)
  rw [World.size_alloc] at hB2
  refine wpIn_over (gf := 25) (lb := #[.pointer (some ⟨W.heap.size + 1, 0, none⟩)]) rfl (enters_of Tryd.func25 (by kernel_rfl) rfl) (places_gives s hlen (W.heap.size + 1) _ hB2) (fun k hk => by subst hk; simp) (fun _ => rfl)
    (fun pre => lift (.func (.yield l) #[] #[]) G W (J ((pre.filter (M.within s.data.toList)).map (pc s)))) (fun c pre => lift (.func (.yield l) #[] #[]) G W (fun G' Wr => c = .ret ∧ Jx ((pre.filter (M.within s.data.toList)).map (pc s)) G' Wr))
    (fun s => lift_stable (hJ _)) (fun c s => lift_stable (fun G' W1 W2 h hl hk => ⟨h.1, hJx _ G' W1 W2 h.2 hl hk⟩)) (fun k => G k ∨ k ≤ W.heap.size)
    (fun k hk h => by subst hk; exact h.elim (fun h => by have := hlive _ h; omega) (fun h => by omega))
    ⟨G, hJ _ _ _ _ h0 hlive (((Keep.refl _ _).alloc _).alloc _), fun k hk => by have := hlive k hk; simp; omega, rfl, hY1.alloc _, hGR, fun k hk => .inl hk, ((Keep.refl _ _).alloc _).alloc _⟩
    (fun k hk => hk.elim (fun hk => by have := hlive k hk; simp; omega) (fun hk => by simp; omega))
    (fun x => { tmps := #[.func (.yield l) #[] #[], .pointer (some ⟨B, 0, none⟩), .pointer (some ⟨W.heap.size, 0, none⟩), .int .i64 x.1, .int .i64 x.2, .string s, .func (.func 25) #[] #[.pointer (some ⟨W.heap.size + 1, 0, none⟩)], .int .i64 x.1, .int .i64 x.2, undef, undef, undef, undef, undef, undef, undef, undef, undef, undef, undef, undef, undef, undef, undef, undef, undef], defers := [] }) ?assign ?body ?done ?stop
  case assign =>
    intro l2 x W2 K hK
    dsimp only [encP]
    gi_wp2
    exact hK
  case body =>
    rintro l2 pre x G1 Wr hpx ⟨G', h1, h2, rfl, h4, h5, h6, h7⟩ _
    gi_wp2
    have hmem : x ∈ M.places s.data.toList := hpx.subset (by simp)
    obtain ⟨hf1, hf2⟩ := M.places_fits _ x hmem
    obtain ⟨a, b⟩ := x
    have hf2 : b ≤ s.size := hf2
    have hf1 : a ≤ b := Nat.le_of_lt hf1
    have hcs := (hBW.keep h7 hGB).cell
    have hcy := h4.cell
    have hsl : s.data.toList.length = s.size := Array.length_toList
    have hkd : Keep G' Wr Wr.drew := (Keep.refl _ Wr).drew
    have hJd := hJ _ _ _ _ h1 h2 ((Keep.refl _ Wr).drew)
    have H4 := Lib.hid (fun (J : Stance) (W' : World) => relift (J := J) (W' := W') h4 h5 h6 h7)
    by_cases hin : 0 < a ∧ b < s.size
    · have hwi : M.within s.data.toList (a, b) = true := by simp [M.within, hsl, hin.1, hin.2]
      obtain ⟨hia, hib⟩ := hin
      obtain ⟨t, ht⟩ : ∃ t, t = pc s (a, b) := ⟨_, rfl⟩
      have hpe : s.extract a b = t := ht ▸ pc_eq s (a, b)
      have hpm : ((pre ++ [(a, b)]).filter (M.within s.data.toList)).map (pc s) = (pre.filter (M.within s.data.toList)).map (pc s) ++ [t] := by
        rw [List.filter_append, List.map_append, ht]
        congr 1
        simp [List.filter_cons, hwi]
      obtain ⟨fn, tmps, assign, body, hy, hR⟩ := hY ((pre.filter (M.within s.data.toList)).map (pc s)) t G' Wr.drew (by rw [← hpm]; exact (hpx.filter _).map _) hJd h2 4
      dsimp only [encS] at hy
      have HR := Lib.hid hR
      have HPM := Lib.hid hpm
      have hta : decide ((0 : Int) < (a : Int)) = true := by simpa using hia
      have htb : decide ((b : Int) < (s.size : Int)) = true := by simpa using hib
      clear hR hpm ht hpx hmem hwi hsl hJd hkd
      refine wpIn_region_flow (fun _ => trivial) (by kernel_rfl) (waistI 14 Wr.drew (Said (Next (J ((pre.filter (M.within s.data.toList)).map (pc s) ++ [t])) G' Wr.drew) (Next (Jx ((pre.filter (M.within s.data.toList)).map (pc s) ++ [t])) G' Wr.drew))) (fun _ _ _ _ => True) (IVy (.func (.yield l) #[] #[]) s a b t) (fun j => j == 16) (by kernel_rfl) (by kernel_rfl) ?hst ⟨fun _ => rfl, fun h => by cases h⟩ ?step ?fin
      case hst =>
        intro i j ys v w1 w2 hij hanc _ hV _
        refine IVy_st ys v w1 w2 j hij (fun e => ?_) hV
        subst e
        exact ⟨(fun e => by subst e; cases hanc.symm.trans (by kernel_rfl : _ = true)), (fun e => by subst e; cases hanc.symm.trans (by kernel_rfl : _ = true))⟩
      case step =>
        refine ⟨?_, ?_, ?_, ?_, ?_, ?_, ?_, ?_, ?_, ?_, ?_, ?_, ?_, ?_, ?_, ?_, ?_, trivial⟩
        · intro listed ys A w hsz hsd hi hall hA hI hd K hK
          obtain rfl := hI.1 (not_yet hsd hi (by kernel_rfl))
          have e3 : A.tmps.getD 3 undef = .int .i64 a := hA 3 (Nat.le_of_ble_eq_true rfl)
          refine step_run (.inl rfl) ?_
          clear hA hd
          go_simp
          exact hK _ _ (hI.other (by decide) _) trivial (upd_same _ _ _)
        · intro listed ys A w hsz hsd hi hall hA hI hd K hK
          obtain rfl := hI.1 (not_yet hsd hi (by kernel_rfl))
          have e9 : A.tmps.getD 9 undef = .int .i64 a := (hA 9 (Nat.le_of_ble_eq_true rfl)).trans (hd ⟨0, .data⟩ (by simp) rfl)
          refine step_run (.inl rfl) ?_
          clear hA hd
          go_simp
          exact hK _ _ (hI.other (by decide) _) trivial (upd_same _ _ _)
        · intro listed ys A w hsz hsd hi hall hA hI hd K hK
          obtain rfl := hI.1 (not_yet hsd hi (by kernel_rfl))
          have e10 : A.tmps.getD 10 undef = .bool true := (hA 10 (Nat.le_of_ble_eq_true rfl)).trans (hd ⟨1, .data⟩ (by simp) rfl)
          refine step_run (.inl rfl) ?_
          clear hA hd
          go_simp
          exact hK _ _ (hI.other (by decide) _) trivial (upd_same _ _ _)
        · intro listed ys A w hsz hsd hi hall hA hI hd K hK
          obtain rfl := hI.1 (not_yet hsd hi (by kernel_rfl))
          have e4 : A.tmps.getD 4 undef = .int .i64 b := hA 4 (Nat.le_of_ble_eq_true rfl)
          refine step_run (.inr ⟨2, 11, true, rfl, rfl, (hA 11 (Nat.le_of_ble_eq_true rfl)).trans (hd ⟨2, .guard⟩ (by simp) rfl)⟩) ?_
          clear hA hd
          go_simp
          exact hK _ _ (hI.other (by decide) _) trivial (upd_same _ _ _)
        · intro listed ys A w hsz hsd hi hall hA hI hd K hK
          obtain rfl := hI.1 (not_yet hsd hi (by kernel_rfl))
          have e1 : A.tmps.getD 1 undef = .pointer (some ⟨B, 0, none⟩) := hA 1 (Nat.le_of_ble_eq_true rfl)
          refine step_run (.inr ⟨2, 11, true, rfl, rfl, (hA 11 (Nat.le_of_ble_eq_true rfl)).trans (hd ⟨2, .guard⟩ (by simp) rfl)⟩) ?_
          clear hA hd
          go_simp
          exact hK _ _ (hI.other (by decide) _) trivial (upd_same _ _ _)
        · intro listed ys A w hsz hsd hi hall hA hI hd K hK
          obtain rfl := hI.1 (not_yet hsd hi (by kernel_rfl))
          have e13 : A.tmps.getD 13 undef = .string s := (hA 13 (Nat.le_of_ble_eq_true rfl)).trans (hd ⟨4, .data⟩ (by simp) rfl)
          refine step_run (.inr ⟨2, 11, true, rfl, rfl, (hA 11 (Nat.le_of_ble_eq_true rfl)).trans (hd ⟨2, .guard⟩ (by simp) rfl)⟩) ?_
          clear hA hd
          go_simp
          exact hK _ _ (hI.other (by decide) _) trivial (upd_same _ _ _)
        · intro listed ys A w hsz hsd hi hall hA hI hd K hK
          obtain rfl := hI.1 (not_yet hsd hi (by kernel_rfl))
          have e12 : A.tmps.getD 12 undef = .int .i64 b := (hA 12 (Nat.le_of_ble_eq_true rfl)).trans (hd ⟨3, .data⟩ (by simp) rfl)
          have e14 : A.tmps.getD 14 undef = .int .i64 s.size := (hA 14 (Nat.le_of_ble_eq_true rfl)).trans (hd ⟨5, .data⟩ (by simp) rfl)
          refine step_run (.inr ⟨2, 11, true, rfl, rfl, (hA 11 (Nat.le_of_ble_eq_true rfl)).trans (hd ⟨2, .guard⟩ (by simp) rfl)⟩) ?_
          clear hA hd
          go_simp
          exact hK _ _ (hI.other (by decide) _) trivial (upd_same _ _ _)
        · intro listed ys A w hsz hsd hi hall hA hI hd K hK
          obtain rfl := hI.1 (not_yet hsd hi (by kernel_rfl))
          have e11 : A.tmps.getD 11 undef = .bool true := (hA 11 (Nat.le_of_ble_eq_true rfl)).trans (hd ⟨2, .data⟩ (by simp) rfl)
          have e15 : A.tmps.getD 15 undef = .bool true := (hA 15 (Nat.le_of_ble_eq_true rfl)).trans (hd ⟨6, .data⟩ (by simp) rfl)
          refine step_run (.inl rfl) ?_
          clear hA hd
          go_simp
          exact hK _ _ (hI.other (by decide) _) trivial (upd_same _ _ _)
        · intro listed ys A w hsz hsd hi hall hA hI hd K hK
          obtain rfl := hI.1 (not_yet hsd hi (by kernel_rfl))
          have e16 : A.tmps.getD 16 undef = .bool true := (hA 16 (Nat.le_of_ble_eq_true rfl)).trans (hd ⟨7, .data⟩ (by simp) rfl)
          refine step_run (.inl rfl) ?_
          clear hA hd
          go_simp
          exact hK _ _ (hI.other (by decide) _) trivial (upd_same _ _ _)
        · intro listed ys A w hsz hsd hi hall hA hI hd K hK
          obtain rfl := hI.1 (not_yet hsd hi (by kernel_rfl))
          have e2 : A.tmps.getD 2 undef = .pointer (some ⟨W.heap.size, 0, none⟩) := hA 2 (Nat.le_of_ble_eq_true rfl)
          refine step_run (.inr ⟨8, 17, true, rfl, rfl, (hA 17 (Nat.le_of_ble_eq_true rfl)).trans (hd ⟨8, .guard⟩ (by simp) rfl)⟩) ?_
          clear hA hd
          go_simp
          exact hK _ _ (hI.other (by decide) _) trivial (upd_same _ _ _)
        · intro listed ys A w hsz hsd hi hall hA hI hd K hK
          obtain rfl := hI.1 (not_yet hsd hi (by kernel_rfl))
          have e1 : A.tmps.getD 1 undef = .pointer (some ⟨B, 0, none⟩) := hA 1 (Nat.le_of_ble_eq_true rfl)
          refine step_run (.inr ⟨8, 17, true, rfl, rfl, (hA 17 (Nat.le_of_ble_eq_true rfl)).trans (hd ⟨8, .guard⟩ (by simp) rfl)⟩) ?_
          clear hA hd
          go_simp
          exact hK _ _ (hI.other (by decide) _) trivial (upd_same _ _ _)
        · intro listed ys A w hsz hsd hi hall hA hI hd K hK
          obtain rfl := hI.1 (not_yet hsd hi (by kernel_rfl))
          have e3 : A.tmps.getD 3 undef = .int .i64 a := hA 3 (Nat.le_of_ble_eq_true rfl)
          refine step_run (.inr ⟨8, 17, true, rfl, rfl, (hA 17 (Nat.le_of_ble_eq_true rfl)).trans (hd ⟨8, .guard⟩ (by simp) rfl)⟩) ?_
          clear hA hd
          go_simp
          exact hK _ _ (hI.other (by decide) _) trivial (upd_same _ _ _)
        · intro listed ys A w hsz hsd hi hall hA hI hd K hK
          obtain rfl := hI.1 (not_yet hsd hi (by kernel_rfl))
          have e4 : A.tmps.getD 4 undef = .int .i64 b := hA 4 (Nat.le_of_ble_eq_true rfl)
          refine step_run (.inr ⟨8, 17, true, rfl, rfl, (hA 17 (Nat.le_of_ble_eq_true rfl)).trans (hd ⟨8, .guard⟩ (by simp) rfl)⟩) ?_
          clear hA hd
          go_simp
          exact hK _ _ (hI.other (by decide) _) trivial (upd_same _ _ _)
        · intro listed ys A w hsz hsd hi hall hA hI hd K hK
          obtain rfl := hI.1 (not_yet hsd hi (by kernel_rfl))
          have e19 : A.tmps.getD 19 undef = .string s := (hA 19 (Nat.le_of_ble_eq_true rfl)).trans (hd ⟨10, .data⟩ (by simp) rfl)
          have e20 : A.tmps.getD 20 undef = .int .i64 a := (hA 20 (Nat.le_of_ble_eq_true rfl)).trans (hd ⟨11, .data⟩ (by simp) rfl)
          have e21 : A.tmps.getD 21 undef = .int .i64 b := (hA 21 (Nat.le_of_ble_eq_true rfl)).trans (hd ⟨12, .data⟩ (by simp) rfl)
          refine step_run (.inr ⟨8, 17, true, rfl, rfl, (hA 17 (Nat.le_of_ble_eq_true rfl)).trans (hd ⟨8, .guard⟩ (by simp) rfl)⟩) ?_
          clear hA hd
          go_simp
          exact hK _ _ (hI.other (by decide) _) trivial (upd_same _ _ _)
        · intro listed ys A w hsz hsd hi hall hA hI hd K hK
          obtain rfl := hI.1 hi
          have e18 : A.tmps.getD 18 undef = .func (.yield l) #[] #[] := (hA 18 (Nat.le_of_ble_eq_true rfl)).trans (hd ⟨9, .data⟩ (by simp) rfl)
          have e22 : A.tmps.getD 22 undef = .string t := (hA 22 (Nat.le_of_ble_eq_true rfl)).trans (hd ⟨13, .data⟩ (by simp) rfl)
          refine step_run (.inr ⟨8, 17, true, rfl, rfl, (hA 17 (Nat.le_of_ble_eq_true rfl)).trans (hd ⟨8, .guard⟩ (by simp) rfl)⟩) ?_
          clear hA hd
          go_simp
          refine (round_in (round_any HR.out)).mono ?_
          rintro e W3 (⟨rfl, hn⟩ | ⟨rfl, hn⟩)
          · exact hK _ _ (waistI.call (by rw [hsz]; decide) (.inl ⟨rfl, hn⟩)) trivial trivial
          · exact hK _ _ (waistI.call (by rw [hsz]; decide) (.inr ⟨rfl, hn⟩)) trivial trivial
        · intro listed ys A w hsz hsd hi hall hA hI hd K hK
          have h5 := hI.2 (hall ⟨14, .data⟩ (by simp) rfl)
          have e23 : A.tmps.getD 23 undef = ys 14 := hA 23 (Nat.le_of_ble_eq_true rfl)
          rcases h5 with ⟨hb, _⟩ | ⟨hb, _⟩
          · rw [hb] at e23
            refine step_run (.inr ⟨8, 17, true, rfl, rfl, (hA 17 (Nat.le_of_ble_eq_true rfl)).trans (hd ⟨8, .guard⟩ (by simp) rfl)⟩) ?_
            clear hA hd
            go_simp
            exact hK _ _ (hI.other (by decide) _) trivial ⟨true, (upd_other _ _ (by decide)).trans hb, upd_same _ _ _⟩
          · rw [hb] at e23
            refine step_run (.inr ⟨8, 17, true, rfl, rfl, (hA 17 (Nat.le_of_ble_eq_true rfl)).trans (hd ⟨8, .guard⟩ (by simp) rfl)⟩) ?_
            clear hA hd
            go_simp
            exact hK _ _ (hI.other (by decide) _) trivial ⟨false, (upd_other _ _ (by decide)).trans hb, upd_same _ _ _⟩
        · intro listed ys A w hsz hsd hi hall hA hI hd K hK
          have e17 : A.tmps.getD 17 undef = .bool true := (hA 17 (Nat.le_of_ble_eq_true rfl)).trans (hd ⟨8, .data⟩ (by simp) rfl)
          obtain ⟨c, hb, h15⟩ := hd ⟨15, .data⟩ (by simp) rfl
          have e24 : A.tmps.getD 24 undef = .bool (!c) := (hA 24 (Nat.le_of_ble_eq_true rfl)).trans h15
          refine step_run (.inl rfl) ?_
          clear hA hd
          go_simp
          exact hK _ _ (hI.other (by decide) _) trivial ⟨c, (upd_other _ _ (by decide)).trans hb, upd_same _ _ _⟩
      case fin =>
        intro listed ys w hall hI hV
        have h5' := hI.2 (hall 14 (by decide))
        obtain ⟨c, hc5, hc6⟩ := hV 16 (by decide) rfl
        clear hI hV hcs hcy hf1 hf2 hpe hy hall h5 h6 h7 hta htb
        rcases h5' with ⟨hb, hn⟩ | ⟨hb, hn⟩
        · rw [hb] at hc5
          obtain rfl : c = true := by injection hc5 with h; exact h.symm
          have HN := Lib.hid hn
          clear hn hb hc5
          simp only [putsFrom]
          simp only [hc6, Bool.not_true, Act.put, List.setIfInBounds_toArray, List.set_cons_succ, List.set_cons_zero]
          gi_wp2
          show Next (lift _ G W (J (((pre ++ [(a, b)]).filter (M.within s.data.toList)).map (pc s)))) _ Wr w
          rw [HPM.out]
          exact H4.out _ _ HN.out
        · rw [hb] at hc5
          obtain rfl : c = false := by injection hc5 with h; exact h.symm
          have HN := Lib.hid hn
          clear hn hb hc5
          simp only [putsFrom]
          simp only [hc6, Bool.not_false, Act.put, List.setIfInBounds_toArray, List.set_cons_succ, List.set_cons_zero]
          gi_wp2
          show Next (lift _ G W (fun G' Wr => Code.ret = .ret ∧ Jx (((pre ++ [(a, b)]).filter (M.within s.data.toList)).map (pc s)) G' Wr)) _ Wr w
          rw [HPM.out]
          exact H4.out _ _ (HN.out.imp fun _ _ h => ⟨rfl, h⟩)
    · have hwi : M.within s.data.toList (a, b) = false := by
        rw [Bool.eq_false_iff]
        intro h
        simp [M.within, hsl] at h
        exact hin h
      have hpm : ((pre ++ [(a, b)]).filter (M.within s.data.toList)).map (pc s) = (pre.filter (M.within s.data.toList)).map (pc s) := by
        rw [List.filter_append]
        simp [List.filter_cons, hwi]
      have HN : Hid (Next (J ((pre.filter (M.within s.data.toList)).map (pc s))) G' Wr.drew Wr.drew) := Lib.hid ⟨G', hJd, h2, fun k hk => .inl hk, Keep.refl _ _⟩
      have HPM := Lib.hid hpm
      obtain ⟨t, ht⟩ : ∃ t : ByteArray, t = s := ⟨_, rfl⟩
      clear hpm ht hpx hmem hwi hsl hJd hkd
      by_cases h0a : 0 < a
      · have htb : decide (b < s.size) = false := by simp; omega
        have hta : decide ((0 : Int) < (a : Int)) = true := by simpa using h0a
        clear hin
        refine wpIn_region_flow (fun _ => trivial) (by kernel_rfl) (waistI 14 Wr.drew (fun _ w => w = Wr.drew)) (fun _ _ _ _ => True) (IVm (.func (.yield l) #[] #[]) s a b t) (fun j => j == 16) (by kernel_rfl) (by kernel_rfl) ?hst2 ⟨fun _ => rfl, fun h => by cases h⟩ ?step2 ?fin2
        case hst2 =>
          intro i j ys v w1 w2 hij hanc _ hV _
          refine IVm_st ys v w1 w2 j hij (fun e => ?_) hV
          subst e
          exact ⟨(fun e => by subst e; cases hanc.symm.trans (by kernel_rfl : _ = true)), (fun e => by subst e; cases hanc.symm.trans (by kernel_rfl : _ = true))⟩
        case step2 =>
          refine ⟨?_, ?_, ?_, ?_, ?_, ?_, ?_, ?_, ?_, ?_, ?_, ?_, ?_, ?_, ?_, ?_, ?_, trivial⟩
          · intro listed ys A w hsz hsd hi hall hA hI hd K hK
            obtain rfl := hI.1 (not_yet hsd hi (by kernel_rfl))
            have e3 : A.tmps.getD 3 undef = .int .i64 a := hA 3 (Nat.le_of_ble_eq_true rfl)
            refine step_run (.inl rfl) ?_
            clear hA hd
            go_simp
            exact hK _ _ (hI.other (by decide) _) trivial (upd_same _ _ _)
          · intro listed ys A w hsz hsd hi hall hA hI hd K hK
            obtain rfl := hI.1 (not_yet hsd hi (by kernel_rfl))
            have e9 : A.tmps.getD 9 undef = .int .i64 a := (hA 9 (Nat.le_of_ble_eq_true rfl)).trans (hd ⟨0, .data⟩ (by simp) rfl)
            refine step_run (.inl rfl) ?_
            clear hA hd
            go_simp
            exact hK _ _ (hI.other (by decide) _) trivial (upd_same _ _ _)
          · intro listed ys A w hsz hsd hi hall hA hI hd K hK
            obtain rfl := hI.1 (not_yet hsd hi (by kernel_rfl))
            have e10 : A.tmps.getD 10 undef = .bool true := (hA 10 (Nat.le_of_ble_eq_true rfl)).trans (hd ⟨1, .data⟩ (by simp) rfl)
            refine step_run (.inl rfl) ?_
            clear hA hd
            go_simp
            exact hK _ _ (hI.other (by decide) _) trivial (upd_same _ _ _)
          · intro listed ys A w hsz hsd hi hall hA hI hd K hK
            obtain rfl := hI.1 (not_yet hsd hi (by kernel_rfl))
            have e4 : A.tmps.getD 4 undef = .int .i64 b := hA 4 (Nat.le_of_ble_eq_true rfl)
            refine step_run (.inr ⟨2, 11, true, rfl, rfl, (hA 11 (Nat.le_of_ble_eq_true rfl)).trans (hd ⟨2, .guard⟩ (by simp) rfl)⟩) ?_
            clear hA hd
            go_simp
            exact hK _ _ (hI.other (by decide) _) trivial (upd_same _ _ _)
          · intro listed ys A w hsz hsd hi hall hA hI hd K hK
            obtain rfl := hI.1 (not_yet hsd hi (by kernel_rfl))
            have e1 : A.tmps.getD 1 undef = .pointer (some ⟨B, 0, none⟩) := hA 1 (Nat.le_of_ble_eq_true rfl)
            refine step_run (.inr ⟨2, 11, true, rfl, rfl, (hA 11 (Nat.le_of_ble_eq_true rfl)).trans (hd ⟨2, .guard⟩ (by simp) rfl)⟩) ?_
            clear hA hd
            go_simp
            exact hK _ _ (hI.other (by decide) _) trivial (upd_same _ _ _)
          · intro listed ys A w hsz hsd hi hall hA hI hd K hK
            obtain rfl := hI.1 (not_yet hsd hi (by kernel_rfl))
            have e13 : A.tmps.getD 13 undef = .string s := (hA 13 (Nat.le_of_ble_eq_true rfl)).trans (hd ⟨4, .data⟩ (by simp) rfl)
            refine step_run (.inr ⟨2, 11, true, rfl, rfl, (hA 11 (Nat.le_of_ble_eq_true rfl)).trans (hd ⟨2, .guard⟩ (by simp) rfl)⟩) ?_
            clear hA hd
            go_simp
            exact hK _ _ (hI.other (by decide) _) trivial (upd_same _ _ _)
          · intro listed ys A w hsz hsd hi hall hA hI hd K hK
            obtain rfl := hI.1 (not_yet hsd hi (by kernel_rfl))
            have e12 : A.tmps.getD 12 undef = .int .i64 b := (hA 12 (Nat.le_of_ble_eq_true rfl)).trans (hd ⟨3, .data⟩ (by simp) rfl)
            have e14 : A.tmps.getD 14 undef = .int .i64 s.size := (hA 14 (Nat.le_of_ble_eq_true rfl)).trans (hd ⟨5, .data⟩ (by simp) rfl)
            refine step_run (.inr ⟨2, 11, true, rfl, rfl, (hA 11 (Nat.le_of_ble_eq_true rfl)).trans (hd ⟨2, .guard⟩ (by simp) rfl)⟩) ?_
            clear hA hd
            go_simp
            exact hK _ _ (hI.other (by decide) _) trivial (upd_same _ _ _)
          · intro listed ys A w hsz hsd hi hall hA hI hd K hK
            obtain rfl := hI.1 (not_yet hsd hi (by kernel_rfl))
            have e11 : A.tmps.getD 11 undef = .bool true := (hA 11 (Nat.le_of_ble_eq_true rfl)).trans (hd ⟨2, .data⟩ (by simp) rfl)
            have e15 : A.tmps.getD 15 undef = .bool false := (hA 15 (Nat.le_of_ble_eq_true rfl)).trans (hd ⟨6, .data⟩ (by simp) rfl)
            refine step_run (.inl rfl) ?_
            clear hA hd
            go_simp
            exact hK _ _ (hI.other (by decide) _) trivial (upd_same _ _ _)
          · intro listed ys A w hsz hsd hi hall hA hI hd K hK
            obtain rfl := hI.1 (not_yet hsd hi (by kernel_rfl))
            have e16 : A.tmps.getD 16 undef = .bool false := (hA 16 (Nat.le_of_ble_eq_true rfl)).trans (hd ⟨7, .data⟩ (by simp) rfl)
            refine step_run (.inl rfl) ?_
            clear hA hd
            go_simp
            exact hK _ _ (hI.other (by decide) _) trivial (upd_same _ _ _)
          · intro listed ys A w hsz hsd hi hall hA hI hd K hK
            obtain rfl := hI.1 (not_yet hsd hi (by kernel_rfl))
            refine step_skip ⟨8, 17, false, rfl, rfl, (hA 17 (Nat.le_of_ble_eq_true rfl)).trans (hd ⟨8, .guard⟩ (by simp) rfl)⟩ ?_
            exact hK _ _ (hI.other (by decide) _) trivial trivial
          · intro listed ys A w hsz hsd hi hall hA hI hd K hK
            obtain rfl := hI.1 (not_yet hsd hi (by kernel_rfl))
            refine step_skip ⟨8, 17, false, rfl, rfl, (hA 17 (Nat.le_of_ble_eq_true rfl)).trans (hd ⟨8, .guard⟩ (by simp) rfl)⟩ ?_
            exact hK _ _ (hI.other (by decide) _) trivial trivial
          · intro listed ys A w hsz hsd hi hall hA hI hd K hK
            obtain rfl := hI.1 (not_yet hsd hi (by kernel_rfl))
            refine step_skip ⟨8, 17, false, rfl, rfl, (hA 17 (Nat.le_of_ble_eq_true rfl)).trans (hd ⟨8, .guard⟩ (by simp) rfl)⟩ ?_
            exact hK _ _ (hI.other (by decide) _) trivial trivial
          · intro listed ys A w hsz hsd hi hall hA hI hd K hK
            obtain rfl := hI.1 (not_yet hsd hi (by kernel_rfl))
            refine step_skip ⟨8, 17, false, rfl, rfl, (hA 17 (Nat.le_of_ble_eq_true rfl)).trans (hd ⟨8, .guard⟩ (by simp) rfl)⟩ ?_
            exact hK _ _ (hI.other (by decide) _) trivial trivial
          · intro listed ys A w hsz hsd hi hall hA hI hd K hK
            obtain rfl := hI.1 (not_yet hsd hi (by kernel_rfl))
            refine step_skip ⟨8, 17, false, rfl, rfl, (hA 17 (Nat.le_of_ble_eq_true rfl)).trans (hd ⟨8, .guard⟩ (by simp) rfl)⟩ ?_
            exact hK _ _ (hI.other (by decide) _) trivial trivial
          · intro listed ys A w hsz hsd hi hall hA hI hd K hK
            obtain rfl := hI.1 hi
            refine step_skip ⟨8, 17, false, rfl, rfl, (hA 17 (Nat.le_of_ble_eq_true rfl)).trans (hd ⟨8, .guard⟩ (by simp) rfl)⟩ ?_
            exact hK _ _ (waistI.call (by rw [hsz]; decide) rfl) trivial trivial
          · intro listed ys A w hsz hsd hi hall hA hI hd K hK
            obtain rfl := hI.2 (hall ⟨14, .data⟩ (by simp) rfl)
            refine step_skip ⟨8, 17, false, rfl, rfl, (hA 17 (Nat.le_of_ble_eq_true rfl)).trans (hd ⟨8, .guard⟩ (by simp) rfl)⟩ ?_
            exact hK _ _ (hI.other (by decide) _) trivial trivial
          · intro listed ys A w hsz hsd hi hall hA hI hd K hK
            obtain rfl := hI.2 (anc_listed hsd _ _ 15 (hall ⟨15, .data⟩ (by simp) rfl) (by kernel_rfl : anc _ 17 14 15 = true))
            have e17 : A.tmps.getD 17 undef = .bool false := (hA 17 (Nat.le_of_ble_eq_true rfl)).trans (hd ⟨8, .data⟩ (by simp) rfl)
            refine step_run (.inl rfl) ?_
            clear hA hd
            go_simp
            exact hK _ _ (hI.other (by decide) _) trivial (upd_same _ _ _)
        case fin2 =>
          intro listed ys w hall hI hV
          obtain rfl := hI.2 (hall 14 (by decide))
          have hc6 : ys 16 = .bool false := hV 16 (by decide) rfl
          clear hI hV hcs hcy hf1 hf2 hall h5 h6 h7 hta htb
          simp only [putsFrom]
          simp only [hc6, Act.put, List.setIfInBounds_toArray, List.set_cons_succ, List.set_cons_zero]
          gi_wp2
          show Next (lift _ G W (J (((pre ++ [(a, b)]).filter (M.within s.data.toList)).map (pc s)))) _ Wr Wr.drew
          rw [HPM.out]
          exact H4.out _ _ HN.out
      · have hta : decide ((0 : Int) < (a : Int)) = false := by simp; omega
        clear hin
        refine wpIn_region_flow (fun _ => trivial) (by kernel_rfl) (waistI 14 Wr.drew (fun _ w => w = Wr.drew)) (fun _ _ _ _ => True) (IVn (.func (.yield l) #[] #[]) s a b t) (fun j => j == 16) (by kernel_rfl) (by kernel_rfl) ?hst3 ⟨fun _ => rfl, fun h => by cases h⟩ ?step3 ?fin3
        case hst3 =>
          intro i j ys v w1 w2 hij hanc _ hV _
          refine IVn_st ys v w1 w2 j hij (fun e => ?_) hV
          subst e
          exact ⟨(fun e => by subst e; cases hanc.symm.trans (by kernel_rfl : _ = true)), (fun e => by subst e; cases hanc.symm.trans (by kernel_rfl : _ = true))⟩
        case step3 =>
          refine ⟨?_, ?_, ?_, ?_, ?_, ?_, ?_, ?_, ?_, ?_, ?_, ?_, ?_, ?_, ?_, ?_, ?_, trivial⟩
          · intro listed ys A w hsz hsd hi hall hA hI hd K hK
            obtain rfl := hI.1 (not_yet hsd hi (by kernel_rfl))
            have e3 : A.tmps.getD 3 undef = .int .i64 a := hA 3 (Nat.le_of_ble_eq_true rfl)
            refine step_run (.inl rfl) ?_
            clear hA hd
            go_simp
            exact hK _ _ (hI.other (by decide) _) trivial (upd_same _ _ _)
          · intro listed ys A w hsz hsd hi hall hA hI hd K hK
            obtain rfl := hI.1 (not_yet hsd hi (by kernel_rfl))
            have e9 : A.tmps.getD 9 undef = .int .i64 a := (hA 9 (Nat.le_of_ble_eq_true rfl)).trans (hd ⟨0, .data⟩ (by simp) rfl)
            refine step_run (.inl rfl) ?_
            clear hA hd
            go_simp
            exact hK _ _ (hI.other (by decide) _) trivial (upd_same _ _ _)
          · intro listed ys A w hsz hsd hi hall hA hI hd K hK
            obtain rfl := hI.1 (not_yet hsd hi (by kernel_rfl))
            have e10 : A.tmps.getD 10 undef = .bool false := (hA 10 (Nat.le_of_ble_eq_true rfl)).trans (hd ⟨1, .data⟩ (by simp) rfl)
            refine step_run (.inl rfl) ?_
            clear hA hd
            go_simp
            exact hK _ _ (hI.other (by decide) _) trivial (upd_same _ _ _)
          · intro listed ys A w hsz hsd hi hall hA hI hd K hK
            obtain rfl := hI.1 (not_yet hsd hi (by kernel_rfl))
            refine step_skip ⟨2, 11, false, rfl, rfl, (hA 11 (Nat.le_of_ble_eq_true rfl)).trans (hd ⟨2, .guard⟩ (by simp) rfl)⟩ ?_
            exact hK _ _ (hI.other (by decide) _) trivial trivial
          · intro listed ys A w hsz hsd hi hall hA hI hd K hK
            obtain rfl := hI.1 (not_yet hsd hi (by kernel_rfl))
            refine step_skip ⟨2, 11, false, rfl, rfl, (hA 11 (Nat.le_of_ble_eq_true rfl)).trans (hd ⟨2, .guard⟩ (by simp) rfl)⟩ ?_
            exact hK _ _ (hI.other (by decide) _) trivial trivial
          · intro listed ys A w hsz hsd hi hall hA hI hd K hK
            obtain rfl := hI.1 (not_yet hsd hi (by kernel_rfl))
            refine step_skip ⟨2, 11, false, rfl, rfl, (hA 11 (Nat.le_of_ble_eq_true rfl)).trans (hd ⟨2, .guard⟩ (by simp) rfl)⟩ ?_
            exact hK _ _ (hI.other (by decide) _) trivial trivial
          · intro listed ys A w hsz hsd hi hall hA hI hd K hK
            obtain rfl := hI.1 (not_yet hsd hi (by kernel_rfl))
            refine step_skip ⟨2, 11, false, rfl, rfl, (hA 11 (Nat.le_of_ble_eq_true rfl)).trans (hd ⟨2, .guard⟩ (by simp) rfl)⟩ ?_
            exact hK _ _ (hI.other (by decide) _) trivial trivial
          · intro listed ys A w hsz hsd hi hall hA hI hd K hK
            obtain rfl := hI.1 (not_yet hsd hi (by kernel_rfl))
            have e11 : A.tmps.getD 11 undef = .bool false := (hA 11 (Nat.le_of_ble_eq_true rfl)).trans (hd ⟨2, .data⟩ (by simp) rfl)
            refine step_run (.inl rfl) ?_
            clear hA hd
            go_simp
            exact hK _ _ (hI.other (by decide) _) trivial (upd_same _ _ _)
          · intro listed ys A w hsz hsd hi hall hA hI hd K hK
            obtain rfl := hI.1 (not_yet hsd hi (by kernel_rfl))
            have e16 : A.tmps.getD 16 undef = .bool false := (hA 16 (Nat.le_of_ble_eq_true rfl)).trans (hd ⟨7, .data⟩ (by simp) rfl)
            refine step_run (.inl rfl) ?_
            clear hA hd
            go_simp
            exact hK _ _ (hI.other (by decide) _) trivial (upd_same _ _ _)
          · intro listed ys A w hsz hsd hi hall hA hI hd K hK
            obtain rfl := hI.1 (not_yet hsd hi (by kernel_rfl))
            refine step_skip ⟨8, 17, false, rfl, rfl, (hA 17 (Nat.le_of_ble_eq_true rfl)).trans (hd ⟨8, .guard⟩ (by simp) rfl)⟩ ?_
            exact hK _ _ (hI.other (by decide) _) trivial trivial
          · intro listed ys A w hsz hsd hi hall hA hI hd K hK
            obtain rfl := hI.1 (not_yet hsd hi (by kernel_rfl))
            refine step_skip ⟨8, 17, false, rfl, rfl, (hA 17 (Nat.le_of_ble_eq_true rfl)).trans (hd ⟨8, .guard⟩ (by simp) rfl)⟩ ?_
            exact hK _ _ (hI.other (by decide) _) trivial trivial
          · intro listed ys A w hsz hsd hi hall hA hI hd K hK
            obtain rfl := hI.1 (not_yet hsd hi (by kernel_rfl))
            refine step_skip ⟨8, 17, false, rfl, rfl, (hA 17 (Nat.le_of_ble_eq_true rfl)).trans (hd ⟨8, .guard⟩ (by simp) rfl)⟩ ?_
            exact hK _ _ (hI.other (by decide) _) trivial trivial
          · intro listed ys A w hsz hsd hi hall hA hI hd K hK
            obtain rfl := hI.1 (not_yet hsd hi (by kernel_rfl))
            refine step_skip ⟨8, 17, false, rfl, rfl, (hA 17 (Nat.le_of_ble_eq_true rfl)).trans (hd ⟨8, .guard⟩ (by simp) rfl)⟩ ?_
            exact hK _ _ (hI.other (by decide) _) trivial trivial
          · intro listed ys A w hsz hsd hi hall hA hI hd K hK
            obtain rfl := hI.1 (not_yet hsd hi (by kernel_rfl))
            refine step_skip ⟨8, 17, false, rfl, rfl, (hA 17 (Nat.le_of_ble_eq_true rfl)).trans (hd ⟨8, .guard⟩ (by simp) rfl)⟩ ?_
            exact hK _ _ (hI.other (by decide) _) trivial trivial
          · intro listed ys A w hsz hsd hi hall hA hI hd K hK
            obtain rfl := hI.1 hi
            refine step_skip ⟨8, 17, false, rfl, rfl, (hA 17 (Nat.le_of_ble_eq_true rfl)).trans (hd ⟨8, .guard⟩ (by simp) rfl)⟩ ?_
            exact hK _ _ (waistI.call (by rw [hsz]; decide) rfl) trivial trivial
          · intro listed ys A w hsz hsd hi hall hA hI hd K hK
            obtain rfl := hI.2 (hall ⟨14, .data⟩ (by simp) rfl)
            refine step_skip ⟨8, 17, false, rfl, rfl, (hA 17 (Nat.le_of_ble_eq_true rfl)).trans (hd ⟨8, .guard⟩ (by simp) rfl)⟩ ?_
            exact hK _ _ (hI.other (by decide) _) trivial trivial
          · intro listed ys A w hsz hsd hi hall hA hI hd K hK
            obtain rfl := hI.2 (anc_listed hsd _ _ 15 (hall ⟨15, .data⟩ (by simp) rfl) (by kernel_rfl : anc _ 17 14 15 = true))
            have e17 : A.tmps.getD 17 undef = .bool false := (hA 17 (Nat.le_of_ble_eq_true rfl)).trans (hd ⟨8, .data⟩ (by simp) rfl)
            refine step_run (.inl rfl) ?_
            clear hA hd
            go_simp
            exact hK _ _ (hI.other (by decide) _) trivial (upd_same _ _ _)
        case fin3 =>
          intro listed ys w hall hI hV
          obtain rfl := hI.2 (hall 14 (by decide))
          have hc6 : ys 16 = .bool false := hV 16 (by decide) rfl
          clear hI hV hcs hcy hf1 hf2 hall h5 h6 h7 hta
          simp only [putsFrom]
          simp only [hc6, Act.put, List.setIfInBounds_toArray, List.set_cons_succ, List.set_cons_zero]
          gi_wp2
          show Next (lift _ G W (J (((pre ++ [(a, b)]).filter (M.within s.data.toList)).map (pc s)))) _ Wr Wr.drew
          rw [HPM.out]
          exact H4.out _ _ HN.out
  case done =>
    intro D We hlf
    gi_wp2
    refine ⟨by simp, .inl ⟨_, _, rfl, hlf.takes, ?_⟩⟩
    exact ⟨_, results_none rfl _ _ _, ⟨_, rfl⟩, .inl (unlift (hlf.shut (lift_stable (hJ _))))⟩
  case stop =>
    intro D c pre We hpre hlf
    have hc : c = .ret := by obtain ⟨_, ⟨_, ⟨hc, _⟩, _⟩, _⟩ := hlf; exact hc
    subst hc
    gi_wp2
    refine ⟨by simp, .inl ⟨_, _, rfl, hlf.takes, ?_⟩⟩
    refine ⟨_, results_none rfl _ _ _, ⟨_, rfl⟩, .inr ⟨_, (hpre.filter _).map _, ?_⟩⟩
    obtain ⟨G', hj, hr⟩ := unlift (hlf.shut (lift_stable (fun G' W1 W2 h hl hk => ⟨h.1, hJx _ G' W1 W2 h.2 hl hk⟩)))
    exact ⟨G', hj.2, hr⟩

end Go.Proofs.YtgjlbcmejanfaaaDoor
