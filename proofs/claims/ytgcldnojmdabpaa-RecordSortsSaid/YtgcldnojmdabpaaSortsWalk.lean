/-
  magpielaw04.RecordSorts: the walk; what the document's own Sort does stands ahead of it ('RefSorts').
-/
import Derived.Test.YtgcldnojmdabpaaAlive
import Derived.Test.YtgcldnojmdabpaaAll
import Derived.Test.YtgcldnojmdabpaaTurn
import Derived.Test.YtgcldnojmdabpaaRefGet
import Derived.Test.YtgcldnojmdabpaaOpen
namespace Go.Proofs.Ytgcldnojmdabpaa
open Go.RowKit Go

theorem cap_open {H : Type} {enc : TypeId × Value → H} {w : World} {spare : Nat → Bool} {held : Bool} {fuel : Nat} {a : Option Addr} {len cap : Nat} {x : DataW H × List MemPlace}
    (h : DataW.trod enc Try.prog w 0 spare held fuel 39 [.slice a len cap] = some x) : len ≤ cap := by
  rcases Go.Deep.open_slice Try.underlying39 h with ⟨hcs, _⟩ | ⟨a, len, cap, m, n, D, Pl, hcs, _, hl, _⟩
  · simp only [List.cons.injEq, Value.slice.injEq, and_true] at hcs
    omega
  · simp only [List.cons.injEq, Value.slice.injEq, and_true] at hcs
    omega

/-- The document's own Sort, as the walk asks for it. -/
def RefSorts : Prop := ∀ (desc : Bool) (G L : Nat → Prop) (w : World) (v : Value) (es : List Ent), EntsAt G L w v es → es.length ≤ 1000 → Calls Try.prog 29 #[.bool desc, v] w (SortPost desc L es w)

theorem nodup_len {α : Type} : ∀ {l m : List α}, l.Nodup → (∀ x ∈ l, x ∈ m) → l.length ≤ m.length
  | [], _, _, _ => Nat.zero_le _
  | x :: r, m, h, hs => by
    rw [List.nodup_cons] at h
    obtain ⟨s, t, rfl⟩ := List.append_of_mem (hs x (by simp))
    have h1 := nodup_len (l := r) (m := s ++ t) h.2 fun y hy => by
      have h2 := hs y (List.mem_cons_of_mem _ hy)
      have h3 : y ≠ x := fun e => h.1 (e ▸ hy)
      simp only [List.mem_append, List.mem_cons] at h2 ⊢
      rcases h2 with h2 | h2 | h2
      · exact .inl h2
      · exact absurd h2 h3
      · exact .inr h2
    simp only [List.length_append, List.length_cons] at h1 ⊢
    omega

theorem mem_turned {α : Type} (q : Nat) (l : List α) (x : α) : x ∈ l.drop q ++ l.take q ↔ x ∈ l := by
  conv => rhs; rw [← List.take_append_drop q l]
  simp only [List.mem_append]
  exact Or.comm

theorem turned_len {α : Type} (q : Nat) (l : List α) : (l.drop q ++ l.take q).length ≤ l.length := by
  rw [List.length_append, List.length_drop, List.length_take]
  omega

theorem Sorts.len {c : Ent → Ent → Int} (hc : LC c) {es out : List Ent} (h : Sorts c es out) : out.length ≤ es.length :=
  nodup_len (h.1.imp (fun {a b} hab e => by
    subst e
    rw [hc.refl] at hab
    cases hab)) fun x hx => (h.2 x).1 hx

set_option maxHeartbeats 16000000 in
set_option maxRecDepth 100000 in
theorem sorts_walk (HRS : RefSorts) (desc : Bool) (es : List Ent) (al : Option Addr) (len cl : Nat) (n : Int) (w : World) (hv : EntsAt (fun _ => True) (fun _ => True) w (.slice al len cl) es) (hcl : len ≤ cl) :
    Calls Try.prog 5 #[.bool desc, .slice al len cl, .int .i64 n] w fun e w' => e = .returned (.bool true) ∧ Below w.heap.size w w' := by
  obtain ⟨_, _, hve, hl63, hal⟩ := id hv
  simp only [Value.slice.injEq] at hve
  obtain ⟨rfl, rfl, rfl⟩ := hve
  have HV := Lib.hid hv
  have HA := Lib.hid hal
  have HRSH := Lib.hid HRS
  have hmx : Try.prog.follows .mixedOrders = true := by kernel_rfl
  have CM : Hid (∀ W, Lay w W → Calls Try.prog 26 #[.slice al es.length cl, .int .i64 60] W fun e w' => e = .returned (.bool (decide (60 < es.length) || es.any Ent.big)) ∧ Lay W w') := Lib.hid fun W hl => many_any (hv.lay hl) 60 (by omega)
  clear hv hal HRS
  go_enter Try.func5, Try.ntmps5
  go_wp2_with fail
  refine (alive_any w).mono ?_
  rintro e w1 ⟨rfl, hl1⟩
  have HL1 := Lib.hid hl1
  clear hl1
  cases hmany : (decide (60 < es.length) || es.any Ent.big) with
  | true =>
    rw [hmany] at CM
    go_wp2_with fail
    refine (CM.out _ HL1.out).mono ?_
    rintro e w2 ⟨rfl, hl2⟩
    have HL2 := Lib.hid (Keep.trans HL1.out hl2)
    clear hl2
    go_wp2_with fail
    go_ret
    exact ⟨rfl, Lay.below HL2.out⟩
  | false =>
    rw [hmany] at CM
    simp only [Bool.or_eq_false_iff, decide_eq_false_iff_not] at hmany
    have h60 : es.length ≤ 60 := by omega
    have HLEN := Lib.hid h60
    clear hmany
    by_cases hn0 : n < 0
    · go_wp2_with fail
      refine (CM.out _ HL1.out).mono ?_
      rintro e w2 ⟨rfl, hl2⟩
      have HL2 := Lib.hid (Keep.trans HL1.out hl2)
      clear hl2
      go_wp2_with fail
      go_ret
      exact ⟨rfl, Lay.below HL2.out⟩
    · by_cases hnl : (es.length : Int) < n
      · go_wp2_with fail
        refine (CM.out _ HL1.out).mono ?_
        rintro e w2 ⟨rfl, hl2⟩
        have HL2 := Lib.hid (Keep.trans HL1.out hl2)
        clear hl2
        go_wp2_with fail
        go_ret
        exact ⟨rfl, Lay.below HL2.out⟩
      · obtain ⟨q, rfl⟩ := Int.eq_ofNat_of_zero_le (by omega : 0 ≤ n)
        have hq : q ≤ es.length := by omega
        go_wp2_with fail
        refine (CM.out _ HL1.out).mono ?_
        rintro e w2 ⟨rfl, hl2⟩
        have HL2 := Lib.hid (Keep.trans HL1.out hl2)
        clear hl2 CM
        have hqz : ¬ (q : Int) < 0 := by omega
        have hql : (q : Int) ≤ (es.length : Int) := by omega
        have hqc : (q : Int) ≤ (cl : Int) := by omega
        have hlc : (es.length : Int) ≤ (cl : Int) := by omega
        by_cases hcq : cl = q
        case pos =>
          have hqn : q = es.length := by omega
          subst hcq
          subst hqn
          obtain ⟨v7, w7, v8, w8, hrun1, hrun2, hb8, hl8⟩ := turned_any HV.out (by omega) (HL2.out.drew) (Nat.le_refl _) (a := al) (.inl (Nat.le_refl _)) 0 es.length
          have HB8 := Lib.hid hb8
          have HL8 := Lib.hid (Keep.trans HL2.out.drew hl8)
          clear hb8 hl8
          rw [Nat.sub_self] at hrun1
          go_wp2_with fail
          go_region_law (first | (refine step_append_run rfl _ _ _ rfl rfl rfl hrun1 ?_) | (refine step_append_run rfl _ _ _ rfl rfl rfl hrun2 ?_))
          all_goals
            clear hrun1 hrun2 HL2
            go_wp2_with fail
            refine (sort_any desc (HV.out.lay HL8.out) (Nat.le_trans HLEN.out (by decide))).mono ?_
            rintro e w9 hp
            obtain ⟨v9, out, rfl, hb9, hso, hl9⟩ := hp.ents
            have HB9 := Lib.hid hb9
            have HSO := Lib.hid hso
            have HL9 := Lib.hid (Keep.trans HL8.out hl9)
            have HB8' := Lib.hid (HB8.out.lay hl9)
            clear hp hb9 hso hl9 HL8 HB8
            go_wp2_with fail
            refine (HRSH.out desc _ _ _ _ _ (HV.out.lay HL9.out) (Nat.le_trans HLEN.out (by decide))).mono ?_
            rintro e w10 hp
            obtain ⟨v10, out2, rfl, hb10, hso2, hl10⟩ := hp.ents
            have e2 : out2 = out := Sorts.unique (ordC_lc desc) hso2 HSO.out (fun x => Iff.rfl)
            rw [e2] at hb10
            have HL10 := Lib.hid (Keep.trans HL9.out hl10)
            have HB9' := Lib.hid (HB9.out.lay hl10)
            have HB8 := Lib.hid (HB8'.out.lay hl10)
            have HB10 := Lib.hid hb10
            clear hp hso2 e2 hl10 HL9 HB9 HB8' hb10
            go_wp2_with fail
            refine (all_any HB9'.out HB10.out).mono ?_
            rintro e w11 ⟨rfl, hl11⟩
            have HL11 := Lib.hid (Keep.trans HL10.out hl11)
            have HB9 := Lib.hid (HB9'.out.lay hl11)
            have HB8' := Lib.hid (HB8.out.lay hl11)
            clear hl11 HL10 HB9' HB8 HB10
            go_wp2_with fail
            refine (sort_any desc HB8'.out (Nat.le_trans (turned_len _ _) (Nat.le_trans HLEN.out (by decide)))).mono ?_
            rintro e w12 hp
            obtain ⟨v12, out3, rfl, hb12, hso3, hl12⟩ := hp.ents
            have e3 : out3 = out := Sorts.unique (ordC_lc desc) hso3 HSO.out (fun x => mem_turned _ _ x)
            rw [e3] at hb12
            have HL12 := Lib.hid (Keep.trans HL11.out hl12)
            have HB9' := Lib.hid (HB9.out.lay hl12)
            have HB12 := Lib.hid hb12
            clear hp hso3 e3 hl12 HL11 HB9 HB8' hb12
            go_wp2_with fail
            refine (all_any HB12.out HB9'.out).mono ?_
            rintro e w13 ⟨rfl, hl13⟩
            have HL13 := Lib.hid (Keep.trans HL12.out hl13)
            have HB9 := Lib.hid (HB9'.out.lay hl13)
            clear hl13 HL12 HB9' HB12
            go_wp2_with fail
            refine (sort_any (!desc) HB9.out (Nat.le_trans (Nat.le_trans (Sorts.len (ordC_lc desc) HSO.out) HLEN.out) (by decide))).mono ?_
            rintro e w14 hp
            obtain ⟨v14, out4, rfl, hb14, hso4, hl14⟩ := hp.ents
            have HL14 := Lib.hid (Keep.trans HL13.out hl14)
            have HB14 := Lib.hid hb14
            have HSO4 := Lib.hid hso4
            clear hp hso4 hl14 HL13 HB9 hb14
            go_wp2_with fail
            refine (HRSH.out (!desc) _ _ _ _ _ (HV.out.lay HL14.out) (Nat.le_trans HLEN.out (by decide))).mono ?_
            rintro e w15 hp
            obtain ⟨v15, out5, rfl, hb15, hso5, hl15⟩ := hp.ents
            have e5 : out5 = out4 := Sorts.unique (ordC_lc (!desc)) hso5 HSO4.out (fun x => (HSO.out.2 x).symm)
            rw [e5] at hb15
            have HL15 := Lib.hid (Keep.trans HL14.out hl15)
            have HB14' := Lib.hid (HB14.out.lay hl15)
            have HB15 := Lib.hid hb15
            clear hp hso5 e5 hl15 HL14 HB14 hb15
            go_wp2_with fail
            refine (all_any HB14'.out HB15.out).mono ?_
            rintro e w16 ⟨rfl, hl16⟩
            have HL16 := Lib.hid (Keep.trans HL15.out hl16)
            clear hl16 HL15 HB14' HB15
            go_wp2_with fail
            go_ret
            exact ⟨rfl, Lay.below HL16.out⟩
        case neg =>
          have hcq2 : ¬ q = cl := by omega
          rcases HA.out with h | ⟨pb, po, rfl, _⟩
          · subst h
            obtain rfl : q = 0 := by simp at hq; omega
            obtain ⟨v7, w7, v8, w8, hrun1, hrun2, hb8, hl8⟩ := turned_any HV.out (by simp) (HL2.out.drew) (Nat.zero_le _) (a := al) (.inl (Nat.le_refl _)) cl cl
            have HB8 := Lib.hid hb8
            have HL8 := Lib.hid (Keep.trans HL2.out.drew hl8)
            clear hb8 hl8
            simp only [List.length_nil] at *
            cases al with
            | none =>
              go_wp2_with fail
              go_region_law (first | (refine step_append_run rfl _ _ _ rfl rfl rfl hrun1 ?_) | (refine step_append_run rfl _ _ _ rfl rfl rfl hrun2 ?_))
              all_goals
                clear hrun1 hrun2 HL2
                go_wp2_with fail
                refine (sort_any desc (HV.out.lay HL8.out) (Nat.le_trans HLEN.out (by decide))).mono ?_
                rintro e w9 hp
                obtain ⟨v9, out, rfl, hb9, hso, hl9⟩ := hp.ents
                have HB9 := Lib.hid hb9
                have HSO := Lib.hid hso
                have HL9 := Lib.hid (Keep.trans HL8.out hl9)
                have HB8' := Lib.hid (HB8.out.lay hl9)
                clear hp hb9 hso hl9 HL8 HB8
                go_wp2_with fail
                refine (HRSH.out desc _ _ _ _ _ (HV.out.lay HL9.out) (Nat.le_trans HLEN.out (by decide))).mono ?_
                rintro e w10 hp
                obtain ⟨v10, out2, rfl, hb10, hso2, hl10⟩ := hp.ents
                have e2 : out2 = out := Sorts.unique (ordC_lc desc) hso2 HSO.out (fun x => Iff.rfl)
                rw [e2] at hb10
                have HL10 := Lib.hid (Keep.trans HL9.out hl10)
                have HB9' := Lib.hid (HB9.out.lay hl10)
                have HB8 := Lib.hid (HB8'.out.lay hl10)
                have HB10 := Lib.hid hb10
                clear hp hso2 e2 hl10 HL9 HB9 HB8' hb10
                go_wp2_with fail
                refine (all_any HB9'.out HB10.out).mono ?_
                rintro e w11 ⟨rfl, hl11⟩
                have HL11 := Lib.hid (Keep.trans HL10.out hl11)
                have HB9 := Lib.hid (HB9'.out.lay hl11)
                have HB8' := Lib.hid (HB8.out.lay hl11)
                clear hl11 HL10 HB9' HB8 HB10
                go_wp2_with fail
                refine (sort_any desc HB8'.out (Nat.le_trans (turned_len _ _) (Nat.le_trans HLEN.out (by decide)))).mono ?_
                rintro e w12 hp
                obtain ⟨v12, out3, rfl, hb12, hso3, hl12⟩ := hp.ents
                have e3 : out3 = out := Sorts.unique (ordC_lc desc) hso3 HSO.out (fun x => mem_turned _ _ x)
                rw [e3] at hb12
                have HL12 := Lib.hid (Keep.trans HL11.out hl12)
                have HB9' := Lib.hid (HB9.out.lay hl12)
                have HB12 := Lib.hid hb12
                clear hp hso3 e3 hl12 HL11 HB9 HB8' hb12
                go_wp2_with fail
                refine (all_any HB12.out HB9'.out).mono ?_
                rintro e w13 ⟨rfl, hl13⟩
                have HL13 := Lib.hid (Keep.trans HL12.out hl13)
                have HB9 := Lib.hid (HB9'.out.lay hl13)
                clear hl13 HL12 HB9' HB12
                go_wp2_with fail
                refine (sort_any (!desc) HB9.out (Nat.le_trans (Nat.le_trans (Sorts.len (ordC_lc desc) HSO.out) HLEN.out) (by decide))).mono ?_
                rintro e w14 hp
                obtain ⟨v14, out4, rfl, hb14, hso4, hl14⟩ := hp.ents
                have HL14 := Lib.hid (Keep.trans HL13.out hl14)
                have HB14 := Lib.hid hb14
                have HSO4 := Lib.hid hso4
                clear hp hso4 hl14 HL13 HB9 hb14
                go_wp2_with fail
                refine (HRSH.out (!desc) _ _ _ _ _ (HV.out.lay HL14.out) (Nat.le_trans HLEN.out (by decide))).mono ?_
                rintro e w15 hp
                obtain ⟨v15, out5, rfl, hb15, hso5, hl15⟩ := hp.ents
                have e5 : out5 = out4 := Sorts.unique (ordC_lc (!desc)) hso5 HSO4.out (fun x => (HSO.out.2 x).symm)
                rw [e5] at hb15
                have HL15 := Lib.hid (Keep.trans HL14.out hl15)
                have HB14' := Lib.hid (HB14.out.lay hl15)
                have HB15 := Lib.hid hb15
                clear hp hso5 e5 hl15 HL14 HB14 hb15
                go_wp2_with fail
                refine (all_any HB14'.out HB15.out).mono ?_
                rintro e w16 ⟨rfl, hl16⟩
                have HL16 := Lib.hid (Keep.trans HL15.out hl16)
                clear hl16 HL15 HB14' HB15
                go_wp2_with fail
                go_ret
                exact ⟨rfl, Lay.below HL16.out⟩
            | some p =>
              go_wp2_with fail
              go_region_law (first | (refine step_append_run rfl _ _ _ rfl rfl rfl hrun1 ?_) | (refine step_append_run rfl _ _ _ rfl rfl rfl hrun2 ?_))
              all_goals
                clear hrun1 hrun2 HL2
                go_wp2_with fail
                refine (sort_any desc (HV.out.lay HL8.out) (Nat.le_trans HLEN.out (by decide))).mono ?_
                rintro e w9 hp
                obtain ⟨v9, out, rfl, hb9, hso, hl9⟩ := hp.ents
                have HB9 := Lib.hid hb9
                have HSO := Lib.hid hso
                have HL9 := Lib.hid (Keep.trans HL8.out hl9)
                have HB8' := Lib.hid (HB8.out.lay hl9)
                clear hp hb9 hso hl9 HL8 HB8
                go_wp2_with fail
                refine (HRSH.out desc _ _ _ _ _ (HV.out.lay HL9.out) (Nat.le_trans HLEN.out (by decide))).mono ?_
                rintro e w10 hp
                obtain ⟨v10, out2, rfl, hb10, hso2, hl10⟩ := hp.ents
                have e2 : out2 = out := Sorts.unique (ordC_lc desc) hso2 HSO.out (fun x => Iff.rfl)
                rw [e2] at hb10
                have HL10 := Lib.hid (Keep.trans HL9.out hl10)
                have HB9' := Lib.hid (HB9.out.lay hl10)
                have HB8 := Lib.hid (HB8'.out.lay hl10)
                have HB10 := Lib.hid hb10
                clear hp hso2 e2 hl10 HL9 HB9 HB8' hb10
                go_wp2_with fail
                refine (all_any HB9'.out HB10.out).mono ?_
                rintro e w11 ⟨rfl, hl11⟩
                have HL11 := Lib.hid (Keep.trans HL10.out hl11)
                have HB9 := Lib.hid (HB9'.out.lay hl11)
                have HB8' := Lib.hid (HB8.out.lay hl11)
                clear hl11 HL10 HB9' HB8 HB10
                go_wp2_with fail
                refine (sort_any desc HB8'.out (Nat.le_trans (turned_len _ _) (Nat.le_trans HLEN.out (by decide)))).mono ?_
                rintro e w12 hp
                obtain ⟨v12, out3, rfl, hb12, hso3, hl12⟩ := hp.ents
                have e3 : out3 = out := Sorts.unique (ordC_lc desc) hso3 HSO.out (fun x => mem_turned _ _ x)
                rw [e3] at hb12
                have HL12 := Lib.hid (Keep.trans HL11.out hl12)
                have HB9' := Lib.hid (HB9.out.lay hl12)
                have HB12 := Lib.hid hb12
                clear hp hso3 e3 hl12 HL11 HB9 HB8' hb12
                go_wp2_with fail
                refine (all_any HB12.out HB9'.out).mono ?_
                rintro e w13 ⟨rfl, hl13⟩
                have HL13 := Lib.hid (Keep.trans HL12.out hl13)
                have HB9 := Lib.hid (HB9'.out.lay hl13)
                clear hl13 HL12 HB9' HB12
                go_wp2_with fail
                refine (sort_any (!desc) HB9.out (Nat.le_trans (Nat.le_trans (Sorts.len (ordC_lc desc) HSO.out) HLEN.out) (by decide))).mono ?_
                rintro e w14 hp
                obtain ⟨v14, out4, rfl, hb14, hso4, hl14⟩ := hp.ents
                have HL14 := Lib.hid (Keep.trans HL13.out hl14)
                have HB14 := Lib.hid hb14
                have HSO4 := Lib.hid hso4
                clear hp hso4 hl14 HL13 HB9 hb14
                go_wp2_with fail
                refine (HRSH.out (!desc) _ _ _ _ _ (HV.out.lay HL14.out) (Nat.le_trans HLEN.out (by decide))).mono ?_
                rintro e w15 hp
                obtain ⟨v15, out5, rfl, hb15, hso5, hl15⟩ := hp.ents
                have e5 : out5 = out4 := Sorts.unique (ordC_lc (!desc)) hso5 HSO4.out (fun x => (HSO.out.2 x).symm)
                rw [e5] at hb15
                have HL15 := Lib.hid (Keep.trans HL14.out hl15)
                have HB14' := Lib.hid (HB14.out.lay hl15)
                have HB15 := Lib.hid hb15
                clear hp hso5 e5 hl15 HL14 HB14 hb15
                go_wp2_with fail
                refine (all_any HB14'.out HB15.out).mono ?_
                rintro e w16 ⟨rfl, hl16⟩
                have HL16 := Lib.hid (Keep.trans HL15.out hl16)
                clear hl16 HL15 HB14' HB15
                go_wp2_with fail
                go_ret
                exact ⟨rfl, Lay.below HL16.out⟩
          · obtain ⟨v7, w7, v8, w8, hrun1, hrun2, hb8, hl8⟩ := turned_any HV.out (by omega) (HL2.out.drew) hq (a := some ⟨pb, po + q * 3, none⟩) (.inr fun b off e => by cases e; rfl) (cl - q) cl
            have HB8 := Lib.hid hb8
            have HL8 := Lib.hid (Keep.trans HL2.out.drew hl8)
            clear hb8 hl8
            go_wp2_with fail
            go_region_law (first | (refine step_append_run rfl _ _ _ rfl rfl rfl hrun1 ?_) | (refine step_append_run rfl _ _ _ rfl rfl rfl hrun2 ?_))
            all_goals
              clear hrun1 hrun2 HL2
              go_wp2_with fail
              refine (sort_any desc (HV.out.lay HL8.out) (Nat.le_trans HLEN.out (by decide))).mono ?_
              rintro e w9 hp
              obtain ⟨v9, out, rfl, hb9, hso, hl9⟩ := hp.ents
              have HB9 := Lib.hid hb9
              have HSO := Lib.hid hso
              have HL9 := Lib.hid (Keep.trans HL8.out hl9)
              have HB8' := Lib.hid (HB8.out.lay hl9)
              clear hp hb9 hso hl9 HL8 HB8
              go_wp2_with fail
              refine (HRSH.out desc _ _ _ _ _ (HV.out.lay HL9.out) (Nat.le_trans HLEN.out (by decide))).mono ?_
              rintro e w10 hp
              obtain ⟨v10, out2, rfl, hb10, hso2, hl10⟩ := hp.ents
              have e2 : out2 = out := Sorts.unique (ordC_lc desc) hso2 HSO.out (fun x => Iff.rfl)
              rw [e2] at hb10
              have HL10 := Lib.hid (Keep.trans HL9.out hl10)
              have HB9' := Lib.hid (HB9.out.lay hl10)
              have HB8 := Lib.hid (HB8'.out.lay hl10)
              have HB10 := Lib.hid hb10
              clear hp hso2 e2 hl10 HL9 HB9 HB8' hb10
              go_wp2_with fail
              refine (all_any HB9'.out HB10.out).mono ?_
              rintro e w11 ⟨rfl, hl11⟩
              have HL11 := Lib.hid (Keep.trans HL10.out hl11)
              have HB9 := Lib.hid (HB9'.out.lay hl11)
              have HB8' := Lib.hid (HB8.out.lay hl11)
              clear hl11 HL10 HB9' HB8 HB10
              go_wp2_with fail
              refine (sort_any desc HB8'.out (Nat.le_trans (turned_len _ _) (Nat.le_trans HLEN.out (by decide)))).mono ?_
              rintro e w12 hp
              obtain ⟨v12, out3, rfl, hb12, hso3, hl12⟩ := hp.ents
              have e3 : out3 = out := Sorts.unique (ordC_lc desc) hso3 HSO.out (fun x => mem_turned _ _ x)
              rw [e3] at hb12
              have HL12 := Lib.hid (Keep.trans HL11.out hl12)
              have HB9' := Lib.hid (HB9.out.lay hl12)
              have HB12 := Lib.hid hb12
              clear hp hso3 e3 hl12 HL11 HB9 HB8' hb12
              go_wp2_with fail
              refine (all_any HB12.out HB9'.out).mono ?_
              rintro e w13 ⟨rfl, hl13⟩
              have HL13 := Lib.hid (Keep.trans HL12.out hl13)
              have HB9 := Lib.hid (HB9'.out.lay hl13)
              clear hl13 HL12 HB9' HB12
              go_wp2_with fail
              refine (sort_any (!desc) HB9.out (Nat.le_trans (Nat.le_trans (Sorts.len (ordC_lc desc) HSO.out) HLEN.out) (by decide))).mono ?_
              rintro e w14 hp
              obtain ⟨v14, out4, rfl, hb14, hso4, hl14⟩ := hp.ents
              have HL14 := Lib.hid (Keep.trans HL13.out hl14)
              have HB14 := Lib.hid hb14
              have HSO4 := Lib.hid hso4
              clear hp hso4 hl14 HL13 HB9 hb14
              go_wp2_with fail
              refine (HRSH.out (!desc) _ _ _ _ _ (HV.out.lay HL14.out) (Nat.le_trans HLEN.out (by decide))).mono ?_
              rintro e w15 hp
              obtain ⟨v15, out5, rfl, hb15, hso5, hl15⟩ := hp.ents
              have e5 : out5 = out4 := Sorts.unique (ordC_lc (!desc)) hso5 HSO4.out (fun x => (HSO.out.2 x).symm)
              rw [e5] at hb15
              have HL15 := Lib.hid (Keep.trans HL14.out hl15)
              have HB14' := Lib.hid (HB14.out.lay hl15)
              have HB15 := Lib.hid hb15
              clear hp hso5 e5 hl15 HL14 HB14 hb15
              go_wp2_with fail
              refine (all_any HB14'.out HB15.out).mono ?_
              rintro e w16 ⟨rfl, hl16⟩
              have HL16 := Lib.hid (Keep.trans HL15.out hl16)
              clear hl16 HL15 HB14' HB15
              go_wp2_with fail
              go_ret
              exact ⟨rfl, Lay.below HL16.out⟩

end Go.Proofs.Ytgcldnojmdabpaa
