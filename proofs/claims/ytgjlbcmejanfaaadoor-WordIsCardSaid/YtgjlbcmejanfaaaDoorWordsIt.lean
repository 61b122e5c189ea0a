/-
  Words: THE ITERATOR OVER THE WORDS OF A TEXT, over the iterator over their places.
-/
import Derived.Test.YtgjlbcmejanfaaaDoorPlaces
import Derived.Test.YtgjlbcmejanfaaaDoorFlow
namespace Go.Proofs.YtgjlbcmejanfaaaDoor
open Go.RowKit Go Go.Shelf

attribute [local go_sem] Oper.semAt_some wide_fn wide_depth

def encS (s : ByteArray) : Array Value := #[.string s]
def bs (l : List UInt8) : ByteArray := ⟨l.toArray⟩
/-- A piece of a text. -/
def pc (s : ByteArray) (p : Nat × Nat) : ByteArray := bs (M.piece s.data.toList p)

theorem pc_eq (s : ByteArray) (p : Nat × Nat) : s.extract p.1 p.2 = pc s p := by
  unfold pc bs M.piece
  apply ByteArray.ext
  apply Array.toList_inj.1
  rw [ByteArray.data_extract]
  simp [List.drop_take, List.extract_eq_take_drop]

/-- What an iterator that goes over another one keeps: its loop's side, and its own box. -/
def lift (y : Value) (G : Nat → Prop) (W : World) (J : Stance) : Stance := fun G1 Wr =>
  ∃ G', J G' Wr ∧ Live G' Wr ∧ G1 = (fun k => G' k ∨ k ≤ W.heap.size) ∧ Box Wr W.heap.size 31 y ∧ ¬ G' W.heap.size ∧ (∀ k, G' k → G k ∨ W.heap.size ≤ k) ∧ Keep G W Wr

theorem lift_stable {y : Value} {G : Nat → Prop} {W : World} {J : Stance} (hJ : Stable J) : Stable (lift y G W J) := by
  rintro G1 Wr W' ⟨G', h1, h2, rfl, h4, h5, h6, h7⟩ hL hk
  refine ⟨G', hJ G' Wr W' h1 h2 (hk.mono fun k _ hn hg => hn (.inl hg)), fun k hg => Nat.lt_of_lt_of_le (h2 k hg) hk.size, rfl, h4.keep hk (fun hn => hn (.inr (Nat.le_refl _))), h5, h6,
    hk.os.trans h7.os, hk.tape.trans h7.tape, hk.output.trans h7.output, Nat.le_trans h7.size hk.size, fun k hk' hn => ?_⟩
  rw [hk.block k (Nat.lt_of_lt_of_le hk' h7.size) (fun hn => hn (.inr (Nat.le_of_lt hk')))]
  exact h7.block k hk' hn

theorem unlift {y : Value} {G H : Nat → Prop} {W A W' : World} {J : Stance} (h : Next (lift y G W J) H A W') : Next J G W W' := by
  obtain ⟨_, ⟨G', h1, h2, rfl, _, _, h6, h7⟩, _⟩ := h
  exact ⟨G', h1, h2, h6, h7⟩

/-- A round of the inner loop, by the outer loop's. -/
theorem relift {y : Value} {G G' : Nat → Prop} {W Wr W' : World} {J : Stance} (h4 : Box Wr W.heap.size 31 y) (h5 : ¬ G' W.heap.size) (h6 : ∀ k, G' k → G k ∨ W.heap.size ≤ k) (h7 : Keep G W Wr) (h : Next J G' Wr.drew W') :
    Next (lift y G W J) (fun k => G' k ∨ k ≤ W.heap.size) Wr W' := by
  obtain ⟨G2, hJ2, hl2, hg2, hk2⟩ := h
  have hk3 : Keep G' Wr W' := ⟨hk2.os, hk2.tape, hk2.output, hk2.size, hk2.block⟩
  have hlt := h4.lt
  have hsz := hk3.size
  refine ⟨fun k => G2 k ∨ k ≤ W.heap.size, ⟨G2, hJ2, hl2, rfl, h4.keep hk3 h5, fun h => (hg2 _ h).elim h5 (fun h => ?_), fun k hk => (hg2 k hk).elim (fun h => h6 k h) (fun h => .inr ?_), Keep.after h6 h7 hk3⟩, fun k hk => ?_, fun k hk => ?_, hk3.mono fun k _ h => .inl h⟩
  · have h : Wr.heap.size ≤ W.heap.size := h
    omega
  · have h : Wr.heap.size ≤ k := h
    omega
  · rcases hk with hk | hk
    · exact hl2 k hk
    · omega
  · rcases hk with hk | hk
    · exact (hg2 k hk).elim (fun h => .inl (.inl h)) (fun h => .inr h)
    · exact .inl (.inr hk)

/-- What the operations of 'yield(s[from:to])' leave. -/
def WV (y : Value) (s : ByteArray) (a b : Nat) (t : ByteArray) : Nat → (Nat → Value) → World → Prop
  | 0, ys, _ => ys 0 = y
  | 1, ys, _ => ys 1 = .string s
  | 2, ys, _ => ys 2 = .int .i64 a
  | 3, ys, _ => ys 3 = .int .i64 b
  | 4, ys, _ => ys 4 = .string t
  | 6, ys, _ => ∃ c : Bool, ys 5 = .bool c ∧ ys 6 = .bool (!c)
  | _, _, _ => True

/-- A round's answer. -/
def Said (T U : World → Prop) (v : Value) (w : World) : Prop := (v = .bool true ∧ T w) ∨ (v = .bool false ∧ U w)

set_option maxHeartbeats 4000000 in
set_option maxRecDepth 100000 in
theorem words_gives (s : ByteArray) (hlen : s.size ≤ 70368744177664) (B : Nat) (w : World) (hB : Box w B 9 (.string s)) :
    Gives Tryd.prog 18 #[.pointer (some ⟨B, 0, none⟩)] (fun k => k = B) encS ((M.places s.data.toList).map (pc s)) w := by
  intro l J Jx G W hW hCG hJ hJx hY h0 hlive
  have hBW := hB.keep hW (fun h => h rfl)
  have hGB := hCG B rfl
  have hcB := hBW.cell
  have hGR : ¬ G W.heap.size := fun h => by have := hlive _ h; omega
  have hBlt := hBW.lt
  refine (callsIn_wide (n := 9)).1 ?_
  refine callsIn_of_wp_marks Tryd.func18 rfl trivial ?_
  simp only [Tryd.ntmps18, List.size_toArray, List.length_cons, List.length_nil, Nat.reduceAdd, Nat.reduceSub, Array.replicate_succ, Array.replicate_zero, List.push_toArray, List.append_toArray, List.nil_append, List.cons_append]
  gi_wp2_with (gi_at_call 19; refine (callsIn_wide.2 (places_any s _)).mono ?_; rintro e w' ⟨rfl, rfl⟩)
  have hY1 : Box (W.alloc (.cells #[.func (.yield l) #[] #[]] 31)) W.heap.size 31 (.func (.yield l) #[] #[]) := Box.new W 31 _
  have hB2 := Box.new (W.alloc (.cells #[.func (.yield l) #[] #[]] 31)) 9 (.string s)
  rw [World.size_alloc] at hB2
  refine wpIn_over (gf := 25) (lb := #[.pointer (some ⟨W.heap.size + 1, 0, none⟩)]) rfl (enters_of Tryd.func25 (by kernel_rfl) rfl) (places_gives s hlen (W.heap.size + 1) _ hB2) (fun k hk => by subst hk; simp) (fun _ => rfl)
    (fun pre => lift (.func (.yield l) #[] #[]) G W (J (pre.map (pc s)))) (fun c pre => lift (.func (.yield l) #[] #[]) G W (fun G' Wr => c = .ret ∧ Jx (pre.map (pc s)) G' Wr))
    (fun s => lift_stable (hJ _)) (fun c s => lift_stable (fun G' W1 W2 h hl hk => ⟨h.1, hJx _ G' W1 W2 h.2 hl hk⟩)) (fun k => G k ∨ k ≤ W.heap.size)
    (fun k hk h => by subst hk; exact h.elim (fun h => by have := hlive _ h; omega) (fun h => by omega))
    ⟨G, hJ _ _ _ _ h0 hlive (((Keep.refl _ _).alloc _).alloc _), fun k hk => by have := hlive k hk; simp; omega, rfl, hY1.alloc _, hGR, fun k hk => .inl hk, ((Keep.refl _ _).alloc _).alloc _⟩
    (fun k hk => hk.elim (fun hk => by have := hlive k hk; simp; omega) (fun hk => by simp; omega))
    (fun x => { tmps := #[.func (.yield l) #[] #[], .pointer (some ⟨B, 0, none⟩), .pointer (some ⟨W.heap.size, 0, none⟩), .int .i64 x.1, .int .i64 x.2, .string s, .func (.func 25) #[] #[.pointer (some ⟨W.heap.size + 1, 0, none⟩)], .int .i64 x.1, .int .i64 x.2, undef, undef, undef, undef, undef, undef, undef], defers := [] }) ?assign ?body ?done ?stop
  case assign =>
    intro l2 x W2 K hK
    dsimp only [encP]
    gi_wp2
    exact hK
  case body =>
    rintro l2 pre x G1 Wr hpx ⟨G', h1, h2, rfl, h4, h5, h6, h7⟩ _
    gi_wp2
    have hmem : x ∈ M.places s.data.toList := hpx.subset (by simp)
    obtain ⟨hf1, hf2⟩ := M.places_fits _ x hmem
    obtain ⟨a, b⟩ := x
    have hf2 : b ≤ s.size := hf2
    have hf1 : a ≤ b := Nat.le_of_lt hf1
    have hcs := (hBW.keep h7 hGB).cell
    have hcy := h4.cell
    obtain ⟨t, ht⟩ : ∃ t, t = pc s (a, b) := ⟨_, rfl⟩
    have hpe : s.extract a b = t := ht ▸ pc_eq s (a, b)
    have hpm : (pre ++ [(a, b)]).map (pc s) = pre.map (pc s) ++ [t] := by rw [List.map_append, ht]; rfl
    have hJd := hJ _ _ _ _ h1 h2 ((Keep.refl _ Wr).drew)
    obtain ⟨fn, tmps, assign, body, hy, hR⟩ := hY (pre.map (pc s)) t G' Wr.drew (by rw [← hpm]; exact hpx.map _) hJd h2 4
    dsimp only [encS] at hy
    have HR := Lib.hid hR
    have HPM := Lib.hid hpm
    clear hR hpm ht hpx hmem
    refine wpIn_region_flow (fun _ => trivial) (by kernel_rfl) (waistI 5 Wr.drew (Said (Next (J (pre.map (pc s) ++ [t])) G' Wr.drew) (Next (Jx (pre.map (pc s) ++ [t])) G' Wr.drew))) (fun _ _ _ _ => True) (WV (.func (.yield l) #[] #[]) s a b t) (fun j => j == 6) (by kernel_rfl) (by kernel_rfl) ?hst ⟨fun _ => rfl, fun h => by cases h⟩ ?step ?fin
    case hst =>
      intro i j ys v w1 w2 hij hanc _ hV _
      match j, hV with
      | 0, hV => exact (upd_other ys v (Ne.symm hij)).trans hV
      | 1, hV => exact (upd_other ys v (Ne.symm hij)).trans hV
      | 2, hV => exact (upd_other ys v (Ne.symm hij)).trans hV
      | 3, hV => exact (upd_other ys v (Ne.symm hij)).trans hV
      | 4, hV => exact (upd_other ys v (Ne.symm hij)).trans hV
      | 5, hV => trivial
      | 6, hV =>
        obtain ⟨c, h5, h6⟩ := hV
        by_cases e : i = 5
        · subst e; cases hanc.symm.trans (by kernel_rfl : _ = true)
        · exact ⟨c, (upd_other ys v (Ne.symm e)).trans h5, (upd_other ys v (Ne.symm hij)).trans h6⟩
      | _ + 7, hV => trivial
    case step =>
      refine ⟨?_, ?_, ?_, ?_, ?_, ?_, ?_, trivial⟩
      · intro listed ys A w hsz hsd hi hall hA hI hd K hK
        obtain rfl := hI.1 (not_yet hsd hi (by kernel_rfl))
        have e2 : A.tmps.getD 2 undef = .pointer (some ⟨W.heap.size, 0, none⟩) := hA 2 (Nat.le_of_ble_eq_true rfl)
        refine step_run (.inl rfl) ?_
        clear hA hd
        go_simp
        exact hK _ _ (hI.other (by decide) _) trivial (upd_same _ _ _)
      · intro listed ys A w hsz hsd hi hall hA hI hd K hK
        obtain rfl := hI.1 (not_yet hsd hi (by kernel_rfl))
        have e1 : A.tmps.getD 1 undef = .pointer (some ⟨B, 0, none⟩) := hA 1 (Nat.le_of_ble_eq_true rfl)
        refine step_run (.inl rfl) ?_
        clear hA hd
        go_simp
        exact hK _ _ (hI.other (by decide) _) trivial (upd_same _ _ _)
      · intro listed ys A w hsz hsd hi hall hA hI hd K hK
        have e3 : A.tmps.getD 3 undef = .int .i64 a := hA 3 (Nat.le_of_ble_eq_true rfl)
        refine step_run (.inl rfl) ?_
        clear hA hd
        go_simp
        exact hK _ _ (hI.other (by decide) _) trivial (upd_same _ _ _)
      · intro listed ys A w hsz hsd hi hall hA hI hd K hK
        have e4 : A.tmps.getD 4 undef = .int .i64 b := hA 4 (Nat.le_of_ble_eq_true rfl)
        refine step_run (.inl rfl) ?_
        clear hA hd
        go_simp
        exact hK _ _ (hI.other (by decide) _) trivial (upd_same _ _ _)
      · intro listed ys A w hsz hsd hi hall hA hI hd K hK
        have e10 : A.tmps.getD 10 undef = .string s := (hA 10 (Nat.le_of_ble_eq_true rfl)).trans (hd ⟨1, .data⟩ (by simp) rfl)
        have e11 : A.tmps.getD 11 undef = .int .i64 a := (hA 11 (Nat.le_of_ble_eq_true rfl)).trans (hd ⟨2, .data⟩ (by simp) rfl)
        have e12 : A.tmps.getD 12 undef = .int .i64 b := (hA 12 (Nat.le_of_ble_eq_true rfl)).trans (hd ⟨3, .data⟩ (by simp) rfl)
        refine step_run (.inl rfl) ?_
        clear hA hd
        go_simp
        exact hK _ _ (hI.other (by decide) _) trivial (upd_same _ _ _)
      · intro listed ys A w hsz hsd hi hall hA hI hd K hK
        obtain rfl := hI.1 hi
        have e9 : A.tmps.getD 9 undef = .func (.yield l) #[] #[] := (hA 9 (Nat.le_of_ble_eq_true rfl)).trans (hd ⟨0, .data⟩ (by simp) rfl)
        have e13 : A.tmps.getD 13 undef = .string t := (hA 13 (Nat.le_of_ble_eq_true rfl)).trans (hd ⟨4, .data⟩ (by simp) rfl)
        refine step_run (.inl rfl) ?_
        clear hA hd
        go_simp
        refine (round_in (round_any HR.out)).mono ?_
        rintro e W3 (⟨rfl, hn⟩ | ⟨rfl, hn⟩)
        · exact hK _ _ (waistI.call (by rw [hsz]; decide) (.inl ⟨rfl, hn⟩)) trivial trivial
        · exact hK _ _ (waistI.call (by rw [hsz]; decide) (.inr ⟨rfl, hn⟩)) trivial trivial
      · intro listed ys A w hsz hsd hi hall hA hI hd K hK
        have h5 := hI.2 (hall ⟨5, .data⟩ (by simp) rfl)
        have e14 : A.tmps.getD 14 undef = ys 5 := hA 14 (Nat.le_of_ble_eq_true rfl)
        rcases h5 with ⟨hb, _⟩ | ⟨hb, _⟩
        · rw [hb] at e14
          refine step_run (.inl rfl) ?_
          clear hA hd
          go_simp
          exact hK _ _ (hI.other (by decide) _) trivial ⟨true, (upd_other _ _ (by decide)).trans hb, upd_same _ _ _⟩
        · rw [hb] at e14
          refine step_run (.inl rfl) ?_
          clear hA hd
          go_simp
          exact hK _ _ (hI.other (by decide) _) trivial ⟨false, (upd_other _ _ (by decide)).trans hb, upd_same _ _ _⟩
    case fin =>
      intro listed ys w hall hI hV
      have h5' := hI.2 (hall 5 (by decide))
      obtain ⟨c, hc5, hc6⟩ := hV 6 (by decide) rfl
      have H4 := Lib.hid (fun J => relift (J := J) (W' := w) h4 h5 h6 h7)
      clear hI hV hcs hcy hf1 hf2 hpe hy hall h5 h6 h7
      rcases h5' with ⟨hb, hn⟩ | ⟨hb, hn⟩
      · rw [hb] at hc5
        obtain rfl : c = true := by injection hc5 with h; exact h.symm
        have HN := Lib.hid hn
        clear hn hb hc5
        simp only [putsFrom]
        simp only [hc6, Bool.not_true, Act.put, List.setIfInBounds_toArray, List.set_cons_succ, List.set_cons_zero]
        gi_wp2
        show Next (lift _ G W (J ((pre ++ [(a, b)]).map (pc s)))) _ Wr w
        rw [HPM.out]
        exact H4.out _ HN.out
      · rw [hb] at hc5
        obtain rfl : c = false := by injection hc5 with h; exact h.symm
        have HN := Lib.hid hn
        clear hn hb hc5
        simp only [putsFrom]
        simp only [hc6, Bool.not_false, Act.put, List.setIfInBounds_toArray, List.set_cons_succ, List.set_cons_zero]
        gi_wp2
        show Next (lift _ G W (fun G' Wr => Code.ret = .ret ∧ Jx ((pre ++ [(a, b)]).map (pc s)) G' Wr)) _ Wr w
        rw [HPM.out]
        exact H4.out _ (HN.out.imp fun _ _ h => ⟨rfl, h⟩)
  case done =>
    intro D We hlf
    gi_wp2
    refine ⟨by simp, .inl ⟨_, _, rfl, hlf.takes, ?_⟩⟩
    exact ⟨_, results_none rfl _ _ _, ⟨_, rfl⟩, .inl (unlift (hlf.shut (lift_stable (hJ _))))⟩
  case stop =>
    intro D c pre We hpre hlf
    have hc : c = .ret := by obtain ⟨_, ⟨_, ⟨hc, _⟩, _⟩, _⟩ := hlf; exact hc
    subst hc
    gi_wp2
    refine ⟨by simp, .inl ⟨_, _, rfl, hlf.takes, ?_⟩⟩
    refine ⟨_, results_none rfl _ _ _, ⟨_, rfl⟩, .inr ⟨pre.map (pc s), hpre.map _, ?_⟩⟩
    obtain ⟨G', hj, hr⟩ := unlift (hlf.shut (lift_stable (fun G' W1 W2 h hl hk => ⟨h.1, hJx _ G' W1 W2 h.2 hl hk⟩)))
    exact ⟨G', hj.2, hr⟩

end Go.Proofs.YtgjlbcmejanfaaaDoor
