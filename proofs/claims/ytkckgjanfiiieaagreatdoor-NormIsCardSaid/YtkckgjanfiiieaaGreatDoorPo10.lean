/-
  THE PROGRAM'S OWN ROWS IN THEIR PLAIN FORMS: THE WALK of norm.row.
-/
import Derived.Test.YtkckgjanfiiieaaGreatDoorPn10
namespace Go.Proofs.YtkckgjanfiiieaaGreatDoor
open Go.RowKit Go

set_option maxHeartbeats 8000000 in
set_option maxRecDepth 100000 in
theorem row_7 (o : Int) (b : Bool) (hob : (o = 7 ∧ b = false) ∨ (o = 8 ∧ b = true)) (k : List Ft) (hl : 2 * Ft.counts k ≤ 100000) (hn : ∀ x ∈ k, (pl b x).count ≤ 2 * x.count) (hp : ∀ x ∈ k, 1 ≤ (pl b x).op) (hk : ∀ x ∈ k, PlainOK b x) (G : Nat → Prop) (a : Option Addr) (c : Nat) (w : World) (hks : KsAt w (.slice a k.length c) (.mk o Nr.e0 Nr.e0 k)) :
    Calls Tryz.prog 26 #[.agg #[.int .i64 o, .string Nr.e0, .string Nr.e0, .slice a k.length c], .bool b] w (PlainP G b (.mk o Nr.e0 Nr.e0 k) w) := by
  have hobr : Nr.foldRow 7 (k.map (pl b)) = pl b (.mk o Nr.e0 Nr.e0 k) := by
    rcases hob with ⟨rfl, rfl⟩ | ⟨rfl, rfl⟩ <;> rw [pl_row _ _ _ (by omega)] <;> rfl
  have HOB := Lib.hid hobr
  have hob2 : (!(o == 8) == b) = false := by rcases hob with ⟨rfl, rfl⟩ | ⟨rfl, rfl⟩ <;> rfl
  clear hobr hob
  have hkl := counts_len k
  obtain ⟨i26, z26, E26⟩ := elem26
  obtain ⟨B, hB⟩ : ∃ B, B = w.heap.size + 2 := ⟨_, rfl⟩
  obtain ⟨pp, hpp⟩ : ∃ pp : Nat → List Ft, pp = fun i => ((k.take i).map (pl b)).flatMap (Nr.part 7) := ⟨_, rfl⟩
  have hpl : ∀ i, (pp i).length ≤ 100000 := fun i => by rw [hpp]; exact Nat.le_trans (parts_len hn i) hl
  have hp0 : pp 0 = [] := by rw [hpp]; rfl
  have hps : ∀ i (h : i < k.length), pp (i + 1) = pp i ++ Nr.part 7 (pl b k[i]) := fun i h => by
    rw [hpp]
    simp only
    rw [List.take_succ_eq_append_getElem h, List.map_append, List.flatMap_append, List.map_cons, List.map_nil, List.flatMap_cons, List.flatMap_nil, List.append_nil]
  have hpe : pp k.length = (k.map (pl b)).flatMap (Nr.part 7) := by rw [hpp]; simp only; rw [List.take_length]
  have HPL := Lib.hid hpl
  have HP0 := Lib.hid hp0
  have HPS := Lib.hid hps
  have HPE := Lib.hid hpe
  have HK0 := Lib.hid hks
  have HPO := Lib.hid hp
  have HKK := Lib.hid hk
  clear hpp hpl hp0 hps hpe hks hk hn hp
  have HB := Lib.hid hB
  have hB1 : w.heap.size + 2 ≤ B := by omega
  have hB2 : B ≤ w.heap.size + 2 := by omega
  clear hB
  go_enter Tryz.func26, Tryz.ntmps26
  go_wp2_with fail
  go_loopw [8, 20] (fun vo vi wr => ∃ (i : Nat) (R : List (Value × Ft)), vi = .int .i64 i ∧ i ≤ k.length ∧ R.map (·.2) = pp i ∧ (∀ x ∈ k.take i, (pl b x).op ≠ Nr.counts 7) ∧ Rk 4 (fun j => B ≤ j) wr vo R.length (flatK R) ∧
    (∀ p ∈ R, KsB (fun j => ((G j ∧ j < w.heap.size) ∨ B ≤ j) ∧ ¬ At vo j) wr p.1 p.2) ∧ Lay w wr ∧ Bx wr (w.heap.size + 1) (.int .i64 0) (.string ⟨#[]⟩) (.string ⟨#[]⟩) (.slice none 0 0) ∧ B ≤ wr.heap.size ∧ wr.cell? ⟨w.heap.size, 0, none⟩ = some (.int .i64 o)) (fun _ vi _ => k.length - (intOf vi).toNat)
  case atStart =>
    exact ⟨0, [], rfl, Nat.zero_le _, by rw [HP0.out]; rfl, fun x hx => by simp at hx, Rk.nil 4 _ _, fun p hp => by simp at hp, ((Keep.refl _ _).alloc _).alloc _, ⟨by go_simp, by go_simp, by go_simp, by go_simp, by go_simp, by go_simp, by go_simp, by go_simp⟩, by simp; omega, by go_simp⟩
  case round =>
    obtain ⟨i, R, rfl, hi, hmap, hno, hrk, hkb, hlay, hbx, hwr, hop⟩ := hrel
    obtain ⟨au, cu, rfl⟩ := hrk.shape
    have hrl : R.length ≤ 100000 := by have := HPL.out i; rw [← hmap, List.length_map] at this; exact this
    have HMAP := Lib.hid hmap
    have HNO := Lib.hid hno
    have HRK := Lib.hid hrk
    have HKB := Lib.hid hkb
    have HLAY := Lib.hid hlay
    have HBX := Lib.hid hbx
    clear hmap hno hrk hkb
    by_cases hlt : i < k.length
    · have hks := KsAt.below hlay.below _ _ HK0.out
      rw [KsAt] at hks
      obtain ⟨a', cap, he, _, h0 | ⟨bb, off, rfl, hbl, hka⟩⟩ := hks
      · exact absurd hlt (by rw [h0]; simp)
      obtain ⟨rfl, rfl⟩ : a = some ⟨bb, off, none⟩ ∧ c = cap := by simpa using he
      obtain ⟨kv, x0, x1, x2, x3, x4⟩ := KAt.get hka i hlt
      have HPI := Lib.hid (HPS.out i hlt)
      have HPI1 := Lib.hid (HPL.out (i + 1))
      have HHIT : Hid ((pl b k[i]).op = Nr.counts 7 → Nr.foldRow 7 (k.map (pl b)) = pl b k[i]) := Lib.hid (foldRow_hit hlt HNO.out)
      have HNXT : Hid ((pl b k[i]).op ≠ Nr.counts 7 → ∀ x ∈ k.take (i + 1), (pl b x).op ≠ Nr.counts 7) := Lib.hid (fun h x hx => by
        rw [List.take_succ_eq_append_getElem hlt, List.mem_append, List.mem_singleton] at hx
        rcases hx with hx | rfl
        · exact HNO.out x hx
        · exact h)
      have hkid := HKK.out _ (List.getElem_mem hlt)
      have hpo := HPO.out _ (List.getElem_mem hlt)
      generalize k[i] = x at x0 x1 x2 x3 x4 HPI HHIT HNXT hkid hpo
      obtain ⟨ak, ck, rfl⟩ := x4.shape
      have hl1 : Lay wr (wr.alloc (.cells #[.int .i64 x.op, .string x.name, .string x.text, .slice ak x.kids.length ck] 26)) := (Keep.refl _ _).alloc _
      have hc := hkid (fun j => G j ∧ j < w.heap.size) _ _ (KsAt.below hl1.below _ _ x4)
      unfold PlainP at hc
      obtain ⟨X, hX⟩ : ∃ X, X = pl b x := ⟨_, rfl⟩
      rw [← hX] at hc HPI HHIT HNXT hpo
      have HC := Lib.hid hc
      have HL1 := Lib.hid hl1
      clear hlay he hka x4 hkid hl1 hc hX
      simp only [Ft.val] at HC
      rw [show Nr.counts 7 = 2 from rfl] at HHIT HNXT
      have hop1 : (wr.alloc (.cells #[.int .i64 x.op, .string x.name, .string x.text, .slice ak x.kids.length ck] 26)).cell? ⟨w.heap.size, 0, none⟩ = some (.int .i64 o) := (World.cell?_of_block (a := ⟨w.heap.size, 0, none⟩) (Below.heap_alloc _ _ _ (by show w.heap.size < wr.heap.size; omega))).trans hop
      by_cases hA : X.op = 2
      · have hA1 : (X.op == 2) = true := beq_iff_eq.2 hA
        have HR := Lib.hid (HHIT.out hA)
        clear HHIT HNXT HPI HPI1 hA
        go_wp2_with (go_at_call 18; refine HC.out.mono ?_; rintro e6 w6 ⟨kv6, rfl, hkb6, hl6⟩; obtain ⟨ak6, ck6, rfl⟩ := (KsB.at _ _ hkb6).shape; simp only; have hl7 : Lay wr (w6.alloc (.cells #[.int .i64 X.op, .string X.name, .string X.text, .slice ak6 X.kids.length ck6] 26)) := (HL1.out.trans hl6).alloc _; have hkb7 := KsB.keep (w' := w6.alloc (.cells #[.int .i64 X.op, .string X.name, .string X.text, .slice ak6 X.kids.length ck6] 26)) (by simp) (fun j _ hj => Below.heap_alloc _ _ _ hj) _ _ hkb6; have hbx7 := HBX.out.carry (W' := w6.alloc (.cells #[.int .i64 X.op, .string X.name, .string X.text, .slice ak6 X.kids.length ck6] 26)) (hl7.block (by omega)); have hop7 : (w6.alloc (.cells #[.int .i64 X.op, .string X.name, .string X.text, .slice ak6 X.kids.length ck6] 26)).cell? ⟨w.heap.size, 0, none⟩ = some (.int .i64 o) := (World.cell?_of_block (a := ⟨w.heap.size, 0, none⟩) (hl7.block (by show w.heap.size < wr.heap.size; omega))).trans hop; have hw6 : wr.heap.size + 1 ≤ w6.heap.size := (by have := hl6.size; simp at this; omega); obtain ⟨c0, c1, c2, c3, f0, f1, f2, f3⟩ := id hbx7)
        have hq := hbx7.all (.int .i64 X.op) (.string X.name) (.string X.text) (.slice ak6 X.kids.length ck6)
        unfold stored at hq
        obtain ⟨q0, q1, q2, q3, _, _, _, _⟩ := hq
        refine bodyPost_ret (v := .agg #[.int .i64 X.op, .string X.name, .string X.text, .slice ak6 X.kids.length ck6]) (by simp [results, Tryz.results26, go_sem, q0, q1, q2, q3]) rfl ?_
        unfold PlainP
        rw [show pl b (.mk o Nr.e0 Nr.e0 k) = X from by rw [← HOB.out]; exact HR.out]
        refine ⟨_, rfl, ?_, keep_stored (HLAY.out.trans hl7) (Nat.le_succ _) _ _ _ _⟩
        refine KsB.mono (fun j _ hj => ?_) _ _ (KsB.keep (Nat.le_of_eq (stored_size _ _ _ _).symm) (fun j hj _ => stored_other (by simp at hj; omega) _ _ _ _) _ _ hkb7)
        simp at hj
        rcases hj with hj | hj
        · exact .inl hj.1
        · exact .inr (by omega)
      have hA1 : (X.op == 2) = false := beq_eq_false_iff_ne.2 hA
      have HN1 := Lib.hid (HNXT.out hA)
      clear HHIT HNXT
      by_cases hO : X.op = 7
      · have hO1 : (X.op == 7) = true := beq_iff_eq.2 hO
        have hI1 : (X.op == 1) = false := beq_eq_false_iff_ne.2 (by omega)
        have hpart : Nr.part 7 X = X.kids := by unfold Nr.part; rw [if_pos hO]
        have hxl : R.length + X.kids.length ≤ 100000 := by
          have h := HPI1.out
          rw [HPI.out, hpart, List.length_append, ← HMAP.out, List.length_map] at h
          exact h
        clear hA hO
        go_wp2_with (first | (go_at_call 18; refine HC.out.mono ?_; rintro e6 w6 ⟨kv6, rfl, hkb6, hl6⟩; obtain ⟨ak6, ck6, rfl⟩ := (KsB.at _ _ hkb6).shape; simp only; have hl7 : Lay wr (w6.alloc (.cells #[.int .i64 X.op, .string X.name, .string X.text, .slice ak6 X.kids.length ck6] 26)) := (HL1.out.trans hl6).alloc _; have hkb7 := KsB.keep (w' := w6.alloc (.cells #[.int .i64 X.op, .string X.name, .string X.text, .slice ak6 X.kids.length ck6] 26)) (by simp) (fun j _ hj => Below.heap_alloc _ _ _ hj) _ _ hkb6; have hbx7 := HBX.out.carry (W' := w6.alloc (.cells #[.int .i64 X.op, .string X.name, .string X.text, .slice ak6 X.kids.length ck6] 26)) (hl7.block (by omega)); have hop7 : (w6.alloc (.cells #[.int .i64 X.op, .string X.name, .string X.text, .slice ak6 X.kids.length ck6] 26)).cell? ⟨w.heap.size, 0, none⟩ = some (.int .i64 o) := (World.cell?_of_block (a := ⟨w.heap.size, 0, none⟩) (hl7.block (by show w.heap.size < wr.heap.size; omega))).trans hop; have hw6 : wr.heap.size + 1 ≤ w6.heap.size := (by have := hl6.size; simp at this; omega); obtain ⟨c0, c1, c2, c3, f0, f1, f2, f3⟩ := id hbx7; obtain ⟨S, hSm, hsrc, hSk0⟩ := src_kids hkb7) | (at_builtin; refine wpList_append_rk E26 _ rfl _ _ 24 rfl (G := fun b => B ≤ b) rfl (Rk.lay HRK.out hl7) ?c1 (.slice ak6 X.kids.length ck6) X.kids.length (flatK S) rfl hsrc ?c2 ?c3 ?_))
        case c1 => intro b hb; simp at hb; omega
        case c2 => omega
        case c3 => omega
        intro v' w2 hrk2 hk2
        have hSl : X.kids.length = S.length := by rw [← hSm, List.length_map]
        have hSk : ∀ p ∈ S, KsB (fun j => (G j ∧ j < w.heap.size) ∨ wr.heap.size ≤ j) (w6.alloc (.cells #[.int .i64 X.op, .string X.name, .string X.text, .slice ak6 X.kids.length ck6] 26)) p.1 p.2 := fun p hp => KsB.mono (fun j _ hj => hj.imp (fun h => h) (fun h => by simp at h; omega)) _ _ (hSk0 p hp)
        clear hsrc hSk0 c0 c1 c2 c3 f0 f1 f2 f3 hbx7 hop7 hkb6 hkb7 hl6
        have hst := fold_step (S := S) HB.out HLAY.out hl7 HRK.out HKB.out hSk hwr (hrk2.mono fun j hj _ => ⟨hj.1, hj.2.imp id fun h => by simpa using h⟩) hSl hk2
        obtain ⟨t1, t2, t3, t4, t5⟩ := hst
        have T1 := Lib.hid t1
        have T2 := Lib.hid t2
        have T3 := Lib.hid t3
        have T4 : Hid (Bx w2 (w.heap.size + 1) (.int .i64 0) (.string ⟨#[]⟩) (.string ⟨#[]⟩) (.slice none 0 0)) := Lib.hid (HBX.out.carry (t4 _ (by omega) (by omega)))
        have T5 : Hid (w2.cell? ⟨w.heap.size, 0, none⟩ = some (.int .i64 o)) := Lib.hid ((World.cell?_of_block (a := ⟨w.heap.size, 0, none⟩) (t4 _ (Nat.le_refl _) (by show w.heap.size < B; omega))).trans hop)
        have T6 := Lib.hid t5
        have HM2 : Hid ((R ++ S).map (·.2) = pp (i + 1)) := Lib.hid (by rw [List.map_append, HMAP.out, hSm, HPI.out, hpart])
        clear t1 t2 t3 t4 t5 hrk2 hk2 hSk hSl hSm hpart
        go_wp2_with fail
        go_roundw
        case rel => exact ⟨i + 1, R ++ S, by go_num, by omega, HM2.out, HN1.out, T1.out, T2.out, T3.out, T4.out, T6.out, T5.out⟩
        case measure => simp [intOf] <;> omega
      have hO1 : (X.op == 7) = false := beq_eq_false_iff_ne.2 hO
      by_cases hD : 2 < X.op
      · have hI1 : (X.op == 1) = false := beq_eq_false_iff_ne.2 (by omega)
        have hpart : Nr.part 7 X = [X] := by unfold Nr.part; rw [if_neg hO, if_pos hD]
        have hxl : R.length + 1 ≤ 100000 := by
          have h := HPI1.out
          rw [HPI.out, hpart, List.length_append, ← HMAP.out, List.length_map] at h
          exact h
        clear hA hO hD
        go_wp2_with (first | (go_at_call 18; refine HC.out.mono ?_; rintro e6 w6 ⟨kv6, rfl, hkb6, hl6⟩; obtain ⟨ak6, ck6, rfl⟩ := (KsB.at _ _ hkb6).shape; simp only; have hl7 : Lay wr (w6.alloc (.cells #[.int .i64 X.op, .string X.name, .string X.text, .slice ak6 X.kids.length ck6] 26)) := (HL1.out.trans hl6).alloc _; have hkb7 := KsB.keep (w' := w6.alloc (.cells #[.int .i64 X.op, .string X.name, .string X.text, .slice ak6 X.kids.length ck6] 26)) (by simp) (fun j _ hj => Below.heap_alloc _ _ _ hj) _ _ hkb6; have hbx7 := HBX.out.carry (W' := w6.alloc (.cells #[.int .i64 X.op, .string X.name, .string X.text, .slice ak6 X.kids.length ck6] 26)) (hl7.block (by omega)); have hop7 : (w6.alloc (.cells #[.int .i64 X.op, .string X.name, .string X.text, .slice ak6 X.kids.length ck6] 26)).cell? ⟨w.heap.size, 0, none⟩ = some (.int .i64 o) := (World.cell?_of_block (a := ⟨w.heap.size, 0, none⟩) (hl7.block (by show w.heap.size < wr.heap.size; omega))).trans hop; have hw6 : wr.heap.size + 1 ≤ w6.heap.size := (by have := hl6.size; simp at this; omega); obtain ⟨c0, c1, c2, c3, f0, f1, f2, f3⟩ := id hbx7) | (at_builtin; refine wpList_append_rk E26 _ rfl _ _ 24 rfl (G := fun b => B ≤ b) rfl (Rk.alloc (Rk.lay HRK.out hl7) _) ?c1 (.slice (some ⟨w6.heap.size + 1, 0, none⟩) 1 1) 1 (flatK [((.slice ak6 X.kids.length ck6 : Value), X)]) rfl (src_kid (w6.alloc (.cells #[.int .i64 X.op, .string X.name, .string X.text, .slice ak6 X.kids.length ck6] 26)) _ (by simp) (.slice ak6 X.kids.length ck6, X) rfl) ?c2 ?c3 ?_))
        case c1 => intro b hb; simp at hb; omega
        case c2 => omega
        case c3 => omega
        intro v' w2 hrk2 hk2
        obtain ⟨S, hS⟩ : ∃ S : List (Value × Ft), S = [((.slice ak6 X.kids.length ck6 : Value), X)] := ⟨_, rfl⟩
        rw [← hS] at hrk2
        have hSl : 1 = S.length := by rw [hS]; rfl
        have hSm : S.map (·.2) = [X] := by rw [hS]; rfl
        have hl8 : Lay wr ((w6.alloc (.cells #[.int .i64 X.op, .string X.name, .string X.text, .slice ak6 X.kids.length ck6] 26)).alloc (.cells #[.int .i64 X.op, .string X.name, .string X.text, .slice ak6 X.kids.length ck6] 26)) := hl7.alloc _
        have hSk : ∀ p ∈ S, KsB (fun j => (G j ∧ j < w.heap.size) ∨ wr.heap.size ≤ j) ((w6.alloc (.cells #[.int .i64 X.op, .string X.name, .string X.text, .slice ak6 X.kids.length ck6] 26)).alloc (.cells #[.int .i64 X.op, .string X.name, .string X.text, .slice ak6 X.kids.length ck6] 26)) p.1 p.2 := fun p hp => by
          rw [hS, List.mem_singleton] at hp
          subst hp
          exact KsB.mono (fun j _ hj => hj.imp (fun h => h) (fun h => by simp at h; omega)) _ _ (KsB.keep (by simp) (fun j _ hj => Below.heap_alloc _ _ _ hj) _ _ hkb7)
        clear hS c0 c1 c2 c3 f0 f1 f2 f3 hbx7 hop7 hkb6 hkb7 hl6
        have hst := fold_step (S := S) HB.out HLAY.out hl8 HRK.out HKB.out hSk hwr (hrk2.mono fun j hj _ => ⟨hj.1, hj.2.imp id fun h => by simpa using h⟩) hSl hk2
        obtain ⟨t1, t2, t3, t4, t5⟩ := hst
        have T1 := Lib.hid t1
        have T2 := Lib.hid t2
        have T3 := Lib.hid t3
        have T4 : Hid (Bx w2 (w.heap.size + 1) (.int .i64 0) (.string ⟨#[]⟩) (.string ⟨#[]⟩) (.slice none 0 0)) := Lib.hid (HBX.out.carry (t4 _ (by omega) (by omega)))
        have T5 : Hid (w2.cell? ⟨w.heap.size, 0, none⟩ = some (.int .i64 o)) := Lib.hid ((World.cell?_of_block (a := ⟨w.heap.size, 0, none⟩) (t4 _ (Nat.le_refl _) (by show w.heap.size < B; omega))).trans hop)
        have T6 := Lib.hid t5
        have HM2 : Hid ((R ++ S).map (·.2) = pp (i + 1)) := Lib.hid (by rw [List.map_append, HMAP.out, hSm, HPI.out, hpart])
        clear t1 t2 t3 t4 t5 hrk2 hk2 hSk hSl hSm hpart
        go_wp2_with fail
        go_roundw
        case rel => exact ⟨i + 1, R ++ S, by go_num, by omega, HM2.out, HN1.out, T1.out, T2.out, T3.out, T4.out, T6.out, T5.out⟩
        case measure => simp [intOf] <;> omega
      · have hI1 : (X.op == 1) = true := beq_iff_eq.2 (by omega)
        have hpart : Nr.part 7 X = [] := by unfold Nr.part; rw [if_neg hO, if_neg hD]
        clear hA hO hD
        go_wp2_with (go_at_call 18; refine HC.out.mono ?_; rintro e6 w6 ⟨kv6, rfl, hkb6, hl6⟩; obtain ⟨ak6, ck6, rfl⟩ := (KsB.at _ _ hkb6).shape; simp only; have hl7 : Lay wr (w6.alloc (.cells #[.int .i64 X.op, .string X.name, .string X.text, .slice ak6 X.kids.length ck6] 26)) := (HL1.out.trans hl6).alloc _; have hkb7 := KsB.keep (w' := w6.alloc (.cells #[.int .i64 X.op, .string X.name, .string X.text, .slice ak6 X.kids.length ck6] 26)) (by simp) (fun j _ hj => Below.heap_alloc _ _ _ hj) _ _ hkb6; have hbx7 := HBX.out.carry (W' := w6.alloc (.cells #[.int .i64 X.op, .string X.name, .string X.text, .slice ak6 X.kids.length ck6] 26)) (hl7.block (by omega)); have hop7 : (w6.alloc (.cells #[.int .i64 X.op, .string X.name, .string X.text, .slice ak6 X.kids.length ck6] 26)).cell? ⟨w.heap.size, 0, none⟩ = some (.int .i64 o) := (World.cell?_of_block (a := ⟨w.heap.size, 0, none⟩) (hl7.block (by show w.heap.size < wr.heap.size; omega))).trans hop; have hw6 : wr.heap.size + 1 ≤ w6.heap.size := (by have := hl6.size; simp at this; omega); obtain ⟨c0, c1, c2, c3, f0, f1, f2, f3⟩ := id hbx7)
        have hM : R.map (·.2) = pp (i + 1) := by rw [HMAP.out, HPI.out, hpart, List.append_nil]
        have hk9 : ∀ p ∈ R, KsB (fun j => ((G j ∧ j < w.heap.size) ∨ B ≤ j) ∧ ¬ At (.slice au R.length cu) j) (w6.alloc (.cells #[.int .i64 X.op, .string X.name, .string X.text, .slice ak6 X.kids.length ck6] 26)) p.1 p.2 := fun p hp => KsB.keep hl7.size (fun j _ hj => hl7.block hj) _ _ (HKB.out p hp)
        have hs9 : B ≤ (w6.alloc (.cells #[.int .i64 X.op, .string X.name, .string X.text, .slice ak6 X.kids.length ck6] 26)).heap.size := by have := hl7.size; omega
        go_roundw
        case rel => exact ⟨i + 1, R, by go_num, by omega, hM, HN1.out, Rk.lay HRK.out hl7, hk9, HLAY.out.trans hl7, hbx7, hs9, hop7⟩
        case measure => simp [intOf] <;> omega
    · obtain rfl : i = k.length := by omega
      have hrow : pl b (.mk o Nr.e0 Nr.e0 k) = rowOf 7 (R.map (·.2)) := by
        rw [← HOB.out, foldRow_none (fun x hx => HNO.out x (by rw [List.take_length]; exact hx)), ← HPE.out, ← HMAP.out]
      have HROW := Lib.hid hrow
      clear hrow
      obtain ⟨c0, c1, c2, c3, f0, f1, f2, f3⟩ := HBX.out
      by_cases hz : R.length = 0
      · have hz1 : ((R.length : Int) == 0) = true := by rw [hz]; rfl
        go_wp2_with fail
        have hq := HBX.out.all (.int .i64 1) (.string ⟨#[]⟩) (.string ⟨#[]⟩) (.slice none 0 0)
        unfold stored at hq
        obtain ⟨q0, q1, q2, q3, _, _, _, _⟩ := hq
        refine bodyPost_ret (v := .agg #[.int .i64 1, .string ⟨#[]⟩, .string ⟨#[]⟩, .slice none 0 0]) (by simp [results, Tryz.results26, go_sem, q0, q1, q2, q3]) rfl ?_
        unfold PlainP
        rw [HROW.out, List.eq_nil_of_length_eq_zero hz, List.map_nil, rowOf_nil7]
        exact ⟨.slice none 0 0, rfl, ksb_none _ _ _ _ _ _ _, keep_stored HLAY.out (Nat.le_succ _) _ _ _ _⟩
      have hz1 : ((R.length : Int) == 0) = false := beq_eq_false_iff_ne.2 (by omega)
      by_cases h1 : R.length = 1
      · have h11 : ((R.length : Int) == 1) = true := by rw [h1]; rfl
        obtain ⟨p, hp⟩ : ∃ p, R = [p] := List.length_eq_one_iff.1 h1
        have hkp := HKB.out p (by rw [hp]; simp)
        obtain ⟨_, ⟨hu, h0⟩ | ⟨g, cap, hu, hg, hgl, _, _, hcell, _⟩⟩ := id HRK.out
        · exact absurd h0 hz
        obtain ⟨rfl, rfl⟩ : au = some ⟨g, 0, none⟩ ∧ cu = cap := by simpa using hu
        have e0 := hcell 0 (by rw [hp]; simp [flatK])
        have e1 := hcell 1 (by rw [hp]; simp [flatK])
        have e2 := hcell 2 (by rw [hp]; simp [flatK])
        have e3 := hcell 3 (by rw [hp]; simp [flatK])
        rw [hp] at e0 e1 e2 e3
        simp only [flatK, List.cons_append, List.nil_append, List.getElem?_cons_zero, List.getElem?_cons_succ] at e0 e1 e2 e3
        have HW := Lib.hid (show rowOf 7 (R.map (·.2)) = p.2 by rw [hp]; rfl)
        obtain ⟨pv, px⟩ := p
        simp only at e0 e1 e2 e3 HW hkp
        obtain ⟨ap, cp, rfl⟩ := (KsB.at _ _ hkp).shape
        have HKP := Lib.hid hkp
        have hpos : 0 < R.length := by omega
        clear hcell hu hp hkp
        go_wp2_with fail
        have hq := HBX.out.all (.int .i64 px.op) (.string px.name) (.string px.text) (.slice ap px.kids.length cp)
        unfold stored at hq
        obtain ⟨q0, q1, q2, q3, _, _, _, _⟩ := hq
        refine bodyPost_ret (v := .agg #[.int .i64 px.op, .string px.name, .string px.text, .slice ap px.kids.length cp]) (by simp [results, Tryz.results26, go_sem, q0, q1, q2, q3]) rfl ?_
        unfold PlainP
        rw [HROW.out, HW.out]
        refine ⟨_, rfl, ?_, keep_stored HLAY.out (Nat.le_succ _) _ _ _ _⟩
        exact KsB.mono (fun j _ hj => hj.1.elim (fun h => .inl h.1) (fun h => .inr (by omega))) _ _ (KsB.keep (Nat.le_of_eq (stored_size _ _ _ _).symm) (fun j hj _ => stored_other (by have := hj.1.imp (fun h => h.2) id; omega) _ _ _ _) _ _ HKP.out)
      · have h11 : ((R.length : Int) == 1) = false := beq_eq_false_iff_ne.2 (by omega)
        go_wp2_with fail
        have hq := HBX.out.all (.int .i64 7) (.string ⟨#[]⟩) (.string ⟨#[]⟩) (.slice au R.length cu)
        unfold stored at hq
        obtain ⟨q0, q1, q2, q3, _, _, _, _⟩ := hq
        refine bodyPost_ret (v := .agg #[.int .i64 7, .string ⟨#[]⟩, .string ⟨#[]⟩, .slice au R.length cu]) (by simp [results, Tryz.results26, go_sem, q0, q1, q2, q3]) rfl ?_
        unfold PlainP
        rw [HROW.out, rowOf_many 7 _ (by rw [List.length_map]; omega)]
        refine ⟨.slice au R.length cu, rfl, ?_, keep_stored HLAY.out (Nat.le_succ _) _ _ _ _⟩
        have hoth : ∀ j, ((G j ∧ j < w.heap.size) ∨ B ≤ j) → (stored wr (w.heap.size + 1) (.int .i64 7) (.string ⟨#[]⟩) (.string ⟨#[]⟩) (.slice au R.length cu)).heap[j]? = wr.heap[j]? := fun j hj => stored_other (by have := hj.imp (fun h => h.2) id; omega) _ _ _ _
        have hs : wr.heap.size ≤ (stored wr (w.heap.size + 1) (.int .i64 7) (.string ⟨#[]⟩) (.string ⟨#[]⟩) (.slice au R.length cu)).heap.size := Nat.le_of_eq (stored_size _ _ _ _).symm
        exact KsB.mono (fun j _ hj => hj.elim (fun h => .inl h.1) (fun h => .inr (by omega))) _ _ (KsB.of_rk5 (G0 := fun j => (G j ∧ j < w.heap.size) ∨ B ≤ j) (fun j hj => .inr hj) (HRK.out.carry hs fun j hj _ _ => hoth j (.inr hj)) (fun p hp => KsB.mono (fun j _ hj => hj.1) _ _ (KsB.keep hs (fun j hj _ => hoth j hj.1) _ _ (HKB.out p hp))) hrl _ _ _)

set_option maxHeartbeats 8000000 in
set_option maxRecDepth 100000 in
theorem row_8 (o : Int) (b : Bool) (hob : (o = 8 ∧ b = false) ∨ (o = 7 ∧ b = true)) (k : List Ft) (hl : 2 * Ft.counts k ≤ 100000) (hn : ∀ x ∈ k, (pl b x).count ≤ 2 * x.count) (hp : ∀ x ∈ k, 1 ≤ (pl b x).op) (hk : ∀ x ∈ k, PlainOK b x) (G : Nat → Prop) (a : Option Addr) (c : Nat) (w : World) (hks : KsAt w (.slice a k.length c) (.mk o Nr.e0 Nr.e0 k)) :
    Calls Tryz.prog 26 #[.agg #[.int .i64 o, .string Nr.e0, .string Nr.e0, .slice a k.length c], .bool b] w (PlainP G b (.mk o Nr.e0 Nr.e0 k) w) := by
  have hobr : Nr.foldRow 8 (k.map (pl b)) = pl b (.mk o Nr.e0 Nr.e0 k) := by
    rcases hob with ⟨rfl, rfl⟩ | ⟨rfl, rfl⟩ <;> rw [pl_row _ _ _ (by omega)] <;> rfl
  have HOB := Lib.hid hobr
  have hob2 : (!(o == 8) == b) = true := by rcases hob with ⟨rfl, rfl⟩ | ⟨rfl, rfl⟩ <;> rfl
  clear hobr hob
  have hkl := counts_len k
  obtain ⟨i26, z26, E26⟩ := elem26
  obtain ⟨B, hB⟩ : ∃ B, B = w.heap.size + 2 := ⟨_, rfl⟩
  obtain ⟨pp, hpp⟩ : ∃ pp : Nat → List Ft, pp = fun i => ((k.take i).map (pl b)).flatMap (Nr.part 8) := ⟨_, rfl⟩
  have hpl : ∀ i, (pp i).length ≤ 100000 := fun i => by rw [hpp]; exact Nat.le_trans (parts_len hn i) hl
  have hp0 : pp 0 = [] := by rw [hpp]; rfl
  have hps : ∀ i (h : i < k.length), pp (i + 1) = pp i ++ Nr.part 8 (pl b k[i]) := fun i h => by
    rw [hpp]
    simp only
    rw [List.take_succ_eq_append_getElem h, List.map_append, List.flatMap_append, List.map_cons, List.map_nil, List.flatMap_cons, List.flatMap_nil, List.append_nil]
  have hpe : pp k.length = (k.map (pl b)).flatMap (Nr.part 8) := by rw [hpp]; simp only; rw [List.take_length]
  have HPL := Lib.hid hpl
  have HP0 := Lib.hid hp0
  have HPS := Lib.hid hps
  have HPE := Lib.hid hpe
  have HK0 := Lib.hid hks
  have HPO := Lib.hid hp
  have HKK := Lib.hid hk
  clear hpp hpl hp0 hps hpe hks hk hn hp
  have HB := Lib.hid hB
  have hB1 : w.heap.size + 2 ≤ B := by omega
  have hB2 : B ≤ w.heap.size + 2 := by omega
  clear hB
  go_enter Tryz.func26, Tryz.ntmps26
  go_wp2_with fail
  go_loopw [8, 20] (fun vo vi wr => ∃ (i : Nat) (R : List (Value × Ft)), vi = .int .i64 i ∧ i ≤ k.length ∧ R.map (·.2) = pp i ∧ (∀ x ∈ k.take i, (pl b x).op ≠ Nr.counts 8) ∧ Rk 4 (fun j => B ≤ j) wr vo R.length (flatK R) ∧
    (∀ p ∈ R, KsB (fun j => ((G j ∧ j < w.heap.size) ∨ B ≤ j) ∧ ¬ At vo j) wr p.1 p.2) ∧ Lay w wr ∧ Bx wr (w.heap.size + 1) (.int .i64 0) (.string ⟨#[]⟩) (.string ⟨#[]⟩) (.slice none 0 0) ∧ B ≤ wr.heap.size ∧ wr.cell? ⟨w.heap.size, 0, none⟩ = some (.int .i64 o)) (fun _ vi _ => k.length - (intOf vi).toNat)
  case atStart =>
    exact ⟨0, [], rfl, Nat.zero_le _, by rw [HP0.out]; rfl, fun x hx => by simp at hx, Rk.nil 4 _ _, fun p hp => by simp at hp, ((Keep.refl _ _).alloc _).alloc _, ⟨by go_simp, by go_simp, by go_simp, by go_simp, by go_simp, by go_simp, by go_simp, by go_simp⟩, by simp; omega, by go_simp⟩
  case round =>
    obtain ⟨i, R, rfl, hi, hmap, hno, hrk, hkb, hlay, hbx, hwr, hop⟩ := hrel
    obtain ⟨au, cu, rfl⟩ := hrk.shape
    have hrl : R.length ≤ 100000 := by have := HPL.out i; rw [← hmap, List.length_map] at this; exact this
    have HMAP := Lib.hid hmap
    have HNO := Lib.hid hno
    have HRK := Lib.hid hrk
    have HKB := Lib.hid hkb
    have HLAY := Lib.hid hlay
    have HBX := Lib.hid hbx
    clear hmap hno hrk hkb
    by_cases hlt : i < k.length
    · have hks := KsAt.below hlay.below _ _ HK0.out
      rw [KsAt] at hks
      obtain ⟨a', cap, he, _, h0 | ⟨bb, off, rfl, hbl, hka⟩⟩ := hks
      · exact absurd hlt (by rw [h0]; simp)
      obtain ⟨rfl, rfl⟩ : a = some ⟨bb, off, none⟩ ∧ c = cap := by simpa using he
      obtain ⟨kv, x0, x1, x2, x3, x4⟩ := KAt.get hka i hlt
      have HPI := Lib.hid (HPS.out i hlt)
      have HPI1 := Lib.hid (HPL.out (i + 1))
      have HHIT : Hid ((pl b k[i]).op = Nr.counts 8 → Nr.foldRow 8 (k.map (pl b)) = pl b k[i]) := Lib.hid (foldRow_hit hlt HNO.out)
      have HNXT : Hid ((pl b k[i]).op ≠ Nr.counts 8 → ∀ x ∈ k.take (i + 1), (pl b x).op ≠ Nr.counts 8) := Lib.hid (fun h x hx => by
        rw [List.take_succ_eq_append_getElem hlt, List.mem_append, List.mem_singleton] at hx
        rcases hx with hx | rfl
        · exact HNO.out x hx
        · exact h)
      have hkid := HKK.out _ (List.getElem_mem hlt)
      have hpo := HPO.out _ (List.getElem_mem hlt)
      generalize k[i] = x at x0 x1 x2 x3 x4 HPI HHIT HNXT hkid hpo
      obtain ⟨ak, ck, rfl⟩ := x4.shape
      have hl1 : Lay wr (wr.alloc (.cells #[.int .i64 x.op, .string x.name, .string x.text, .slice ak x.kids.length ck] 26)) := (Keep.refl _ _).alloc _
      have hc := hkid (fun j => G j ∧ j < w.heap.size) _ _ (KsAt.below hl1.below _ _ x4)
      unfold PlainP at hc
      obtain ⟨X, hX⟩ : ∃ X, X = pl b x := ⟨_, rfl⟩
      rw [← hX] at hc HPI HHIT HNXT hpo
      have HC := Lib.hid hc
      have HL1 := Lib.hid hl1
      clear hlay he hka x4 hkid hl1 hc hX
      simp only [Ft.val] at HC
      rw [show Nr.counts 8 = 1 from rfl] at HHIT HNXT
      have hop1 : (wr.alloc (.cells #[.int .i64 x.op, .string x.name, .string x.text, .slice ak x.kids.length ck] 26)).cell? ⟨w.heap.size, 0, none⟩ = some (.int .i64 o) := (World.cell?_of_block (a := ⟨w.heap.size, 0, none⟩) (Below.heap_alloc _ _ _ (by show w.heap.size < wr.heap.size; omega))).trans hop
      by_cases hA : X.op = 1
      · have hA1 : (X.op == 1) = true := beq_iff_eq.2 hA
        have HR := Lib.hid (HHIT.out hA)
        clear HHIT HNXT HPI HPI1 hA
        go_wp2_with (go_at_call 18; refine HC.out.mono ?_; rintro e6 w6 ⟨kv6, rfl, hkb6, hl6⟩; obtain ⟨ak6, ck6, rfl⟩ := (KsB.at _ _ hkb6).shape; simp only; have hl7 : Lay wr (w6.alloc (.cells #[.int .i64 X.op, .string X.name, .string X.text, .slice ak6 X.kids.length ck6] 26)) := (HL1.out.trans hl6).alloc _; have hkb7 := KsB.keep (w' := w6.alloc (.cells #[.int .i64 X.op, .string X.name, .string X.text, .slice ak6 X.kids.length ck6] 26)) (by simp) (fun j _ hj => Below.heap_alloc _ _ _ hj) _ _ hkb6; have hbx7 := HBX.out.carry (W' := w6.alloc (.cells #[.int .i64 X.op, .string X.name, .string X.text, .slice ak6 X.kids.length ck6] 26)) (hl7.block (by omega)); have hop7 : (w6.alloc (.cells #[.int .i64 X.op, .string X.name, .string X.text, .slice ak6 X.kids.length ck6] 26)).cell? ⟨w.heap.size, 0, none⟩ = some (.int .i64 o) := (World.cell?_of_block (a := ⟨w.heap.size, 0, none⟩) (hl7.block (by show w.heap.size < wr.heap.size; omega))).trans hop; have hw6 : wr.heap.size + 1 ≤ w6.heap.size := (by have := hl6.size; simp at this; omega); obtain ⟨c0, c1, c2, c3, f0, f1, f2, f3⟩ := id hbx7)
        have hq := hbx7.all (.int .i64 X.op) (.string X.name) (.string X.text) (.slice ak6 X.kids.length ck6)
        unfold stored at hq
        obtain ⟨q0, q1, q2, q3, _, _, _, _⟩ := hq
        refine bodyPost_ret (v := .agg #[.int .i64 X.op, .string X.name, .string X.text, .slice ak6 X.kids.length ck6]) (by simp [results, Tryz.results26, go_sem, q0, q1, q2, q3]) rfl ?_
        unfold PlainP
        rw [show pl b (.mk o Nr.e0 Nr.e0 k) = X from by rw [← HOB.out]; exact HR.out]
        refine ⟨_, rfl, ?_, keep_stored (HLAY.out.trans hl7) (Nat.le_succ _) _ _ _ _⟩
        refine KsB.mono (fun j _ hj => ?_) _ _ (KsB.keep (Nat.le_of_eq (stored_size _ _ _ _).symm) (fun j hj _ => stored_other (by simp at hj; omega) _ _ _ _) _ _ hkb7)
        simp at hj
        rcases hj with hj | hj
        · exact .inl hj.1
        · exact .inr (by omega)
      have hA1 : (X.op == 1) = false := beq_eq_false_iff_ne.2 hA
      have HN1 := Lib.hid (HNXT.out hA)
      clear HHIT HNXT
      by_cases hO : X.op = 8
      · have hO1 : (X.op == 8) = true := beq_iff_eq.2 hO
        have hI1 : (X.op == 2) = false := beq_eq_false_iff_ne.2 (by omega)
        have hpart : Nr.part 8 X = X.kids := by unfold Nr.part; rw [if_pos hO]
        have hxl : R.length + X.kids.length ≤ 100000 := by
          have h := HPI1.out
          rw [HPI.out, hpart, List.length_append, ← HMAP.out, List.length_map] at h
          exact h
        clear hA hO
        go_wp2_with (first | (go_at_call 18; refine HC.out.mono ?_; rintro e6 w6 ⟨kv6, rfl, hkb6, hl6⟩; obtain ⟨ak6, ck6, rfl⟩ := (KsB.at _ _ hkb6).shape; simp only; have hl7 : Lay wr (w6.alloc (.cells #[.int .i64 X.op, .string X.name, .string X.text, .slice ak6 X.kids.length ck6] 26)) := (HL1.out.trans hl6).alloc _; have hkb7 := KsB.keep (w' := w6.alloc (.cells #[.int .i64 X.op, .string X.name, .string X.text, .slice ak6 X.kids.length ck6] 26)) (by simp) (fun j _ hj => Below.heap_alloc _ _ _ hj) _ _ hkb6; have hbx7 := HBX.out.carry (W' := w6.alloc (.cells #[.int .i64 X.op, .string X.name, .string X.text, .slice ak6 X.kids.length ck6] 26)) (hl7.block (by omega)); have hop7 : (w6.alloc (.cells #[.int .i64 X.op, .string X.name, .string X.text, .slice ak6 X.kids.length ck6] 26)).cell? ⟨w.heap.size, 0, none⟩ = some (.int .i64 o) := (World.cell?_of_block (a := ⟨w.heap.size, 0, none⟩) (hl7.block (by show w.heap.size < wr.heap.size; omega))).trans hop; have hw6 : wr.heap.size + 1 ≤ w6.heap.size := (by have := hl6.size; simp at this; omega); obtain ⟨c0, c1, c2, c3, f0, f1, f2, f3⟩ := id hbx7; obtain ⟨S, hSm, hsrc, hSk0⟩ := src_kids hkb7) | (at_builtin; refine wpList_append_rk E26 _ rfl _ _ 24 rfl (G := fun b => B ≤ b) rfl (Rk.lay HRK.out hl7) ?c1 (.slice ak6 X.kids.length ck6) X.kids.length (flatK S) rfl hsrc ?c2 ?c3 ?_))
        case c1 => intro b hb; simp at hb; omega
        case c2 => omega
        case c3 => omega
        intro v' w2 hrk2 hk2
        have hSl : X.kids.length = S.length := by rw [← hSm, List.length_map]
        have hSk : ∀ p ∈ S, KsB (fun j => (G j ∧ j < w.heap.size) ∨ wr.heap.size ≤ j) (w6.alloc (.cells #[.int .i64 X.op, .string X.name, .string X.text, .slice ak6 X.kids.length ck6] 26)) p.1 p.2 := fun p hp => KsB.mono (fun j _ hj => hj.imp (fun h => h) (fun h => by simp at h; omega)) _ _ (hSk0 p hp)
        clear hsrc hSk0 c0 c1 c2 c3 f0 f1 f2 f3 hbx7 hop7 hkb6 hkb7 hl6
        have hst := fold_step (S := S) HB.out HLAY.out hl7 HRK.out HKB.out hSk hwr (hrk2.mono fun j hj _ => ⟨hj.1, hj.2.imp id fun h => by simpa using h⟩) hSl hk2
        obtain ⟨t1, t2, t3, t4, t5⟩ := hst
        have T1 := Lib.hid t1
        have T2 := Lib.hid t2
        have T3 := Lib.hid t3
        have T4 : Hid (Bx w2 (w.heap.size + 1) (.int .i64 0) (.string ⟨#[]⟩) (.string ⟨#[]⟩) (.slice none 0 0)) := Lib.hid (HBX.out.carry (t4 _ (by omega) (by omega)))
        have T5 : Hid (w2.cell? ⟨w.heap.size, 0, none⟩ = some (.int .i64 o)) := Lib.hid ((World.cell?_of_block (a := ⟨w.heap.size, 0, none⟩) (t4 _ (Nat.le_refl _) (by show w.heap.size < B; omega))).trans hop)
        have T6 := Lib.hid t5
        have HM2 : Hid ((R ++ S).map (·.2) = pp (i + 1)) := Lib.hid (by rw [List.map_append, HMAP.out, hSm, HPI.out, hpart])
        clear t1 t2 t3 t4 t5 hrk2 hk2 hSk hSl hSm hpart
        go_wp2_with fail
        go_roundw
        case rel => exact ⟨i + 1, R ++ S, by go_num, by omega, HM2.out, HN1.out, T1.out, T2.out, T3.out, T4.out, T6.out, T5.out⟩
        case measure => simp [intOf] <;> omega
      have hO1 : (X.op == 8) = false := beq_eq_false_iff_ne.2 hO
      by_cases hD : 2 < X.op
      · have hI1 : (X.op == 2) = false := beq_eq_false_iff_ne.2 (by omega)
        have hpart : Nr.part 8 X = [X] := by unfold Nr.part; rw [if_neg hO, if_pos hD]
        have hxl : R.length + 1 ≤ 100000 := by
          have h := HPI1.out
          rw [HPI.out, hpart, List.length_append, ← HMAP.out, List.length_map] at h
          exact h
        clear hA hO hD
        go_wp2_with (first | (go_at_call 18; refine HC.out.mono ?_; rintro e6 w6 ⟨kv6, rfl, hkb6, hl6⟩; obtain ⟨ak6, ck6, rfl⟩ := (KsB.at _ _ hkb6).shape; simp only; have hl7 : Lay wr (w6.alloc (.cells #[.int .i64 X.op, .string X.name, .string X.text, .slice ak6 X.kids.length ck6] 26)) := (HL1.out.trans hl6).alloc _; have hkb7 := KsB.keep (w' := w6.alloc (.cells #[.int .i64 X.op, .string X.name, .string X.text, .slice ak6 X.kids.length ck6] 26)) (by simp) (fun j _ hj => Below.heap_alloc _ _ _ hj) _ _ hkb6; have hbx7 := HBX.out.carry (W' := w6.alloc (.cells #[.int .i64 X.op, .string X.name, .string X.text, .slice ak6 X.kids.length ck6] 26)) (hl7.block (by omega)); have hop7 : (w6.alloc (.cells #[.int .i64 X.op, .string X.name, .string X.text, .slice ak6 X.kids.length ck6] 26)).cell? ⟨w.heap.size, 0, none⟩ = some (.int .i64 o) := (World.cell?_of_block (a := ⟨w.heap.size, 0, none⟩) (hl7.block (by show w.heap.size < wr.heap.size; omega))).trans hop; have hw6 : wr.heap.size + 1 ≤ w6.heap.size := (by have := hl6.size; simp at this; omega); obtain ⟨c0, c1, c2, c3, f0, f1, f2, f3⟩ := id hbx7) | (at_builtin; refine wpList_append_rk E26 _ rfl _ _ 24 rfl (G := fun b => B ≤ b) rfl (Rk.alloc (Rk.lay HRK.out hl7) _) ?c1 (.slice (some ⟨w6.heap.size + 1, 0, none⟩) 1 1) 1 (flatK [((.slice ak6 X.kids.length ck6 : Value), X)]) rfl (src_kid (w6.alloc (.cells #[.int .i64 X.op, .string X.name, .string X.text, .slice ak6 X.kids.length ck6] 26)) _ (by simp) (.slice ak6 X.kids.length ck6, X) rfl) ?c2 ?c3 ?_))
        case c1 => intro b hb; simp at hb; omega
        case c2 => omega
        case c3 => omega
        intro v' w2 hrk2 hk2
        obtain ⟨S, hS⟩ : ∃ S : List (Value × Ft), S = [((.slice ak6 X.kids.length ck6 : Value), X)] := ⟨_, rfl⟩
        rw [← hS] at hrk2
        have hSl : 1 = S.length := by rw [hS]; rfl
        have hSm : S.map (·.2) = [X] := by rw [hS]; rfl
        have hl8 : Lay wr ((w6.alloc (.cells #[.int .i64 X.op, .string X.name, .string X.text, .slice ak6 X.kids.length ck6] 26)).alloc (.cells #[.int .i64 X.op, .string X.name, .string X.text, .slice ak6 X.kids.length ck6] 26)) := hl7.alloc _
        have hSk : ∀ p ∈ S, KsB (fun j => (G j ∧ j < w.heap.size) ∨ wr.heap.size ≤ j) ((w6.alloc (.cells #[.int .i64 X.op, .string X.name, .string X.text, .slice ak6 X.kids.length ck6] 26)).alloc (.cells #[.int .i64 X.op, .string X.name, .string X.text, .slice ak6 X.kids.length ck6] 26)) p.1 p.2 := fun p hp => by
          rw [hS, List.mem_singleton] at hp
          subst hp
          exact KsB.mono (fun j _ hj => hj.imp (fun h => h) (fun h => by simp at h; omega)) _ _ (KsB.keep (by simp) (fun j _ hj => Below.heap_alloc _ _ _ hj) _ _ hkb7)
        clear hS c0 c1 c2 c3 f0 f1 f2 f3 hbx7 hop7 hkb6 hkb7 hl6
        have hst := fold_step (S := S) HB.out HLAY.out hl8 HRK.out HKB.out hSk hwr (hrk2.mono fun j hj _ => ⟨hj.1, hj.2.imp id fun h => by simpa using h⟩) hSl hk2
        obtain ⟨t1, t2, t3, t4, t5⟩ := hst
        have T1 := Lib.hid t1
        have T2 := Lib.hid t2
        have T3 := Lib.hid t3
        have T4 : Hid (Bx w2 (w.heap.size + 1) (.int .i64 0) (.string ⟨#[]⟩) (.string ⟨#[]⟩) (.slice none 0 0)) := Lib.hid (HBX.out.carry (t4 _ (by omega) (by omega)))
        have T5 : Hid (w2.cell? ⟨w.heap.size, 0, none⟩ = some (.int .i64 o)) := Lib.hid ((World.cell?_of_block (a := ⟨w.heap.size, 0, none⟩) (t4 _ (Nat.le_refl _) (by show w.heap.size < B; omega))).trans hop)
        have T6 := Lib.hid t5
        have HM2 : Hid ((R ++ S).map (·.2) = pp (i + 1)) := Lib.hid (by rw [List.map_append, HMAP.out, hSm, HPI.out, hpart])
        clear t1 t2 t3 t4 t5 hrk2 hk2 hSk hSl hSm hpart
        go_wp2_with fail
        go_roundw
        case rel => exact ⟨i + 1, R ++ S, by go_num, by omega, HM2.out, HN1.out, T1.out, T2.out, T3.out, T4.out, T6.out, T5.out⟩
        case measure => simp [intOf] <;> omega
      · have hI1 : (X.op == 2) = true := beq_iff_eq.2 (by omega)
        have hpart : Nr.part 8 X = [] := by unfold Nr.part; rw [if_neg hO, if_neg hD]
        clear hA hO hD
        go_wp2_with (go_at_call 18; refine HC.out.mono ?_; rintro e6 w6 ⟨kv6, rfl, hkb6, hl6⟩; obtain ⟨ak6, ck6, rfl⟩ := (KsB.at _ _ hkb6).shape; simp only; have hl7 : Lay wr (w6.alloc (.cells #[.int .i64 X.op, .string X.name, .string X.text, .slice ak6 X.kids.length ck6] 26)) := (HL1.out.trans hl6).alloc _; have hkb7 := KsB.keep (w' := w6.alloc (.cells #[.int .i64 X.op, .string X.name, .string X.text, .slice ak6 X.kids.length ck6] 26)) (by simp) (fun j _ hj => Below.heap_alloc _ _ _ hj) _ _ hkb6; have hbx7 := HBX.out.carry (W' := w6.alloc (.cells #[.int .i64 X.op, .string X.name, .string X.text, .slice ak6 X.kids.length ck6] 26)) (hl7.block (by omega)); have hop7 : (w6.alloc (.cells #[.int .i64 X.op, .string X.name, .string X.text, .slice ak6 X.kids.length ck6] 26)).cell? ⟨w.heap.size, 0, none⟩ = some (.int .i64 o) := (World.cell?_of_block (a := ⟨w.heap.size, 0, none⟩) (hl7.block (by show w.heap.size < wr.heap.size; omega))).trans hop; have hw6 : wr.heap.size + 1 ≤ w6.heap.size := (by have := hl6.size; simp at this; omega); obtain ⟨c0, c1, c2, c3, f0, f1, f2, f3⟩ := id hbx7)
        have hM : R.map (·.2) = pp (i + 1) := by rw [HMAP.out, HPI.out, hpart, List.append_nil]
        have hk9 : ∀ p ∈ R, KsB (fun j => ((G j ∧ j < w.heap.size) ∨ B ≤ j) ∧ ¬ At (.slice au R.length cu) j) (w6.alloc (.cells #[.int .i64 X.op, .string X.name, .string X.text, .slice ak6 X.kids.length ck6] 26)) p.1 p.2 := fun p hp => KsB.keep hl7.size (fun j _ hj => hl7.block hj) _ _ (HKB.out p hp)
        have hs9 : B ≤ (w6.alloc (.cells #[.int .i64 X.op, .string X.name, .string X.text, .slice ak6 X.kids.length ck6] 26)).heap.size := by have := hl7.size; omega
        go_roundw
        case rel => exact ⟨i + 1, R, by go_num, by omega, hM, HN1.out, Rk.lay HRK.out hl7, hk9, HLAY.out.trans hl7, hbx7, hs9, hop7⟩
        case measure => simp [intOf] <;> omega
    · obtain rfl : i = k.length := by omega
      have hrow : pl b (.mk o Nr.e0 Nr.e0 k) = rowOf 8 (R.map (·.2)) := by
        rw [← HOB.out, foldRow_none (fun x hx => HNO.out x (by rw [List.take_length]; exact hx)), ← HPE.out, ← HMAP.out]
      have HROW := Lib.hid hrow
      clear hrow
      obtain ⟨c0, c1, c2, c3, f0, f1, f2, f3⟩ := HBX.out
      by_cases hz : R.length = 0
      · have hz1 : ((R.length : Int) == 0) = true := by rw [hz]; rfl
        go_wp2_with fail
        have hq := HBX.out.all (.int .i64 2) (.string ⟨#[]⟩) (.string ⟨#[]⟩) (.slice none 0 0)
        unfold stored at hq
        obtain ⟨q0, q1, q2, q3, _, _, _, _⟩ := hq
        refine bodyPost_ret (v := .agg #[.int .i64 2, .string ⟨#[]⟩, .string ⟨#[]⟩, .slice none 0 0]) (by simp [results, Tryz.results26, go_sem, q0, q1, q2, q3]) rfl ?_
        unfold PlainP
        rw [HROW.out, List.eq_nil_of_length_eq_zero hz, List.map_nil, rowOf_nil8]
        exact ⟨.slice none 0 0, rfl, ksb_none _ _ _ _ _ _ _, keep_stored HLAY.out (Nat.le_succ _) _ _ _ _⟩
      have hz1 : ((R.length : Int) == 0) = false := beq_eq_false_iff_ne.2 (by omega)
      by_cases h1 : R.length = 1
      · have h11 : ((R.length : Int) == 1) = true := by rw [h1]; rfl
        obtain ⟨p, hp⟩ : ∃ p, R = [p] := List.length_eq_one_iff.1 h1
        have hkp := HKB.out p (by rw [hp]; simp)
        obtain ⟨_, ⟨hu, h0⟩ | ⟨g, cap, hu, hg, hgl, _, _, hcell, _⟩⟩ := id HRK.out
        · exact absurd h0 hz
        obtain ⟨rfl, rfl⟩ : au = some ⟨g, 0, none⟩ ∧ cu = cap := by simpa using hu
        have e0 := hcell 0 (by rw [hp]; simp [flatK])
        have e1 := hcell 1 (by rw [hp]; simp [flatK])
        have e2 := hcell 2 (by rw [hp]; simp [flatK])
        have e3 := hcell 3 (by rw [hp]; simp [flatK])
        rw [hp] at e0 e1 e2 e3
        simp only [flatK, List.cons_append, List.nil_append, List.getElem?_cons_zero, List.getElem?_cons_succ] at e0 e1 e2 e3
        have HW := Lib.hid (show rowOf 8 (R.map (·.2)) = p.2 by rw [hp]; rfl)
        obtain ⟨pv, px⟩ := p
        simp only at e0 e1 e2 e3 HW hkp
        obtain ⟨ap, cp, rfl⟩ := (KsB.at _ _ hkp).shape
        have HKP := Lib.hid hkp
        have hpos : 0 < R.length := by omega
        clear hcell hu hp hkp
        go_wp2_with fail
        have hq := HBX.out.all (.int .i64 px.op) (.string px.name) (.string px.text) (.slice ap px.kids.length cp)
        unfold stored at hq
        obtain ⟨q0, q1, q2, q3, _, _, _, _⟩ := hq
        refine bodyPost_ret (v := .agg #[.int .i64 px.op, .string px.name, .string px.text, .slice ap px.kids.length cp]) (by simp [results, Tryz.results26, go_sem, q0, q1, q2, q3]) rfl ?_
        unfold PlainP
        rw [HROW.out, HW.out]
        refine ⟨_, rfl, ?_, keep_stored HLAY.out (Nat.le_succ _) _ _ _ _⟩
        exact KsB.mono (fun j _ hj => hj.1.elim (fun h => .inl h.1) (fun h => .inr (by omega))) _ _ (KsB.keep (Nat.le_of_eq (stored_size _ _ _ _).symm) (fun j hj _ => stored_other (by have := hj.1.imp (fun h => h.2) id; omega) _ _ _ _) _ _ HKP.out)
      · have h11 : ((R.length : Int) == 1) = false := beq_eq_false_iff_ne.2 (by omega)
        go_wp2_with fail
        have hq := HBX.out.all (.int .i64 8) (.string ⟨#[]⟩) (.string ⟨#[]⟩) (.slice au R.length cu)
        unfold stored at hq
        obtain ⟨q0, q1, q2, q3, _, _, _, _⟩ := hq
        refine bodyPost_ret (v := .agg #[.int .i64 8, .string ⟨#[]⟩, .string ⟨#[]⟩, .slice au R.length cu]) (by simp [results, Tryz.results26, go_sem, q0, q1, q2, q3]) rfl ?_
        unfold PlainP
        rw [HROW.out, rowOf_many 8 _ (by rw [List.length_map]; omega)]
        refine ⟨.slice au R.length cu, rfl, ?_, keep_stored HLAY.out (Nat.le_succ _) _ _ _ _⟩
        have hoth : ∀ j, ((G j ∧ j < w.heap.size) ∨ B ≤ j) → (stored wr (w.heap.size + 1) (.int .i64 8) (.string ⟨#[]⟩) (.string ⟨#[]⟩) (.slice au R.length cu)).heap[j]? = wr.heap[j]? := fun j hj => stored_other (by have := hj.imp (fun h => h.2) id; omega) _ _ _ _
        have hs : wr.heap.size ≤ (stored wr (w.heap.size + 1) (.int .i64 8) (.string ⟨#[]⟩) (.string ⟨#[]⟩) (.slice au R.length cu)).heap.size := Nat.le_of_eq (stored_size _ _ _ _).symm
        exact KsB.mono (fun j _ hj => hj.elim (fun h => .inl h.1) (fun h => .inr (by omega))) _ _ (KsB.of_rk5 (G0 := fun j => (G j ∧ j < w.heap.size) ∨ B ≤ j) (fun j hj => .inr hj) (HRK.out.carry hs fun j hj _ _ => hoth j (.inr hj)) (fun p hp => KsB.mono (fun j _ hj => hj.1) _ _ (KsB.keep hs (fun j hj _ => hoth j hj.1) _ _ (HKB.out p hp))) hrl _ _ _)

end Go.Proofs.YtkckgjanfiiieaaGreatDoor
