/-
  Cd12.
-/
import Derived.Test.YtoobjjpheegmdaaGreatK11
namespace Go.Proofs.YtoobjjpheegmdaaGreat.E4
open Go.RowKit Go
theorem texts_of {G H I : Nat → Prop} {w : World} {v : Value} {rows : List (List ByteArray)} {xs : List Value} (h : Rk 1 G w v rows.length xs) (hr : RowsV w H rows xs) (hl : rows.length ≤ 1000) (hG : ∀ q, G q → I q) (hH : ∀ q, H q → I q) : TextsG I w v rows := by
  obtain ⟨hn, ⟨rfl, h0⟩ | ⟨g, cap, rfl, hg, hlt, _, _, hc, _⟩⟩ := h
  · have : rows = [] := List.eq_nil_of_length_eq_zero h0
    subst this
    exact ⟨none, 0, rfl, by simp, .inl rfl⟩
  · refine ⟨_, cap, rfl, by omega, .inr ⟨g, 0, rfl, hG g hg, hlt, fun i hi => ?_⟩⟩
    obtain ⟨u, hu, hs⟩ := hr.2 i hi
    refine ⟨u, ?_, hs.carry (Nat.le_refl _) (fun _ _ _ => rfl) fun q hq _ => hH q hq⟩
    rw [Nat.zero_add, hc i (by omega), hu]
theorem Bl.set12 {W : World} {B : Nat} {t : TypeId} {arr : Array Value} (h : Bl W B t arr) (i : Nat) (u : Value) : Bl (W.setCell ⟨B, i, none⟩ u) B t (arr.setIfInBounds i u) := by
  obtain ⟨hlt, hk⟩ := Array.getElem?_eq_some_iff.1 h
  show (W.heap.modify B _)[B]? = _
  rw [Array.getElem?_eq_getElem (by rw [Array.size_modify]; exact hlt), Array.getElem_modify_self, hk]
  rfl
theorem RowsV.carry {w w' : World} {G H : Nat → Prop} {rows : List (List ByteArray)} {xs : List Value} (h : RowsV w G rows xs) (hs : w.heap.size ≤ w'.heap.size) (hb : ∀ b, G b → b < w.heap.size → w'.heap[b]? = w.heap[b]?) (hG : ∀ b, G b → b < w.heap.size → H b) : RowsV w' H rows xs :=
  ⟨h.1, fun i hi => by
    obtain ⟨u, hu, hs'⟩ := h.2 i hi
    exact ⟨u, hu, hs'.carry hs hb hG⟩⟩
theorem RowsV.set {w : World} {G : Nat → Prop} {rows : List (List ByteArray)} {xs : List Value} (h : RowsV w G rows xs) (k : Nat) (hk : k < rows.length) {u : Value} (hu : SG G w u rows[k]) : RowsV w G rows (xs.set k u) := by
  refine ⟨by rw [List.length_set]; exact h.1, fun i hi => ?_⟩
  by_cases e : k = i
  · subst e
    exact ⟨u, List.getElem?_set_self (by rw [h.1]; exact hk), hu⟩
  · obtain ⟨v, hv, hs⟩ := h.2 i hi
    exact ⟨v, by rw [List.getElem?_set_ne e]; exact hv, hs⟩
theorem Rk.setC {G : Nat → Prop} {w : World} {g n cap : Nat} {xs : List Value} (h : Rk 1 G w (.slice (some ⟨g, 0, none⟩) n cap) n xs) (k : Nat) (hk : k < n) (u : Value) : Rk 1 G (w.setCell ⟨g, k, none⟩ u) (.slice (some ⟨g, 0, none⟩) n cap) n (xs.set k u) := by
  obtain ⟨h0, ⟨h, _⟩ | ⟨g', cap', he, hG, hlt, hn, hm, hc, hf⟩⟩ := h
  · cases h
  · obtain ⟨rfl, rfl⟩ : g' = g ∧ cap' = cap := by simpa [eq_comm] using he
    have hsome := hf k (by omega)
    refine ⟨by rw [List.length_set]; exact h0, .inr ⟨g', cap', rfl, hG, by simpa [World.setCell] using hlt, hn, hm, fun j hj => ?_, fun j hj => ?_⟩⟩
    · rw [List.length_set] at hj
      by_cases e : k = j
      · subst e
        rw [List.getElem?_set_self hj]
        have hs := hsome.1
        go_simp
      · rw [List.getElem?_set_ne e, ← hc j hj]
        go_simp
    · have := hf j hj
      refine ⟨?_, (World.frozen?_setCell _ _ _ _).trans this.2⟩
      by_cases e : k = j
      · subst e
        have hs := this.1
        go_simp
      · have hs := this.1
        go_simp
set_option maxHeartbeats 2000000 in
set_option maxRecDepth 100000 in
theorem copied1 {G : Nat → Prop} (a : Ask) (k1 : a.kd = 1) (av mv : Value) (w : World) (h1 : TextsG G w av a.all) (hGw : ∀ q, G q → q < w.heap.size) (hn : a.all.length ≤ 1000) (hr : ∀ l ∈ a.all, l.length ≤ 1000) :
    Calls Tryz.prog 83 #[a.dyn av mv] w fun e w' => ∃ av', e = .returned (a.dyn av' mv) ∧ TextsG (fun q => G q ∨ w.heap.size ≤ q) w' av' a.all ∧ Below w.heap.size w w' := by
  have q1 := is63_yes
  have q2 := is63_nil
  have q3 := is63_no76
  have q4 := is63_no78
  have r1 := is76_yes
  have r2 := is76_nil
  have r3 := is76_no78
  obtain ⟨xs, hxs, hsr⟩ := rows_src h1
  obtain ⟨aa, ca, rfl, hz1, hz2⟩ := id h1
  clear hz1 hz2
  obtain ⟨w1, hw1⟩ : ∃ w1, w1 = w.alloc (.cells #[.int .i64 a.src, .int .i64 a.til, .slice aa a.all.length ca] 63) := ⟨_, rfl⟩
  have hl1 : Lay w w1 := by rw [hw1]; exact (Keep.refl _ w).alloc _
  have hk1 : Bl w1 w.heap.size 63 #[.int .i64 a.src, .int .i64 a.til, .slice aa a.all.length ca] := by rw [hw1]; exact Bl.new w 63 _
  have hb1 := E4.lay_below hl1
  have HCL := Lib.hid (cloneR_any (h1.at.below hb1) hxs.1 (fun w2 hl2 => hsr w2 (hl1.trans hl2)) (by omega))
  have HD := Lib.hid (fun v => dyn1 k1 v mv)
  have hd0 := dyn1 k1 (.slice aa a.all.length ca) mv
  have HW1 := Lib.hid hw1.symm
  have HB1 := Lib.hid hb1
  have HK1 := Lib.hid hk1
  have HXS := Lib.hid hxs
  have HR := Lib.hid hr
  have c2 := hk1.cell 2
  have z2 := hk1.frozen 2
  simp only [List.getElem?_toArray, List.getElem?_cons_succ, List.getElem?_cons_zero] at c2
  rw [hd0]
  clear hd0 k1 h1 hxs hsr hw1 hl1 hk1 hb1 hr
  go_enter Tryz.func83, Tryz.ntmps83
  go_upto_region 4 with fail
  rw [HW1.out]
  go_wp2_with fail
  refine HCL.out.mono ?_
  rintro e w2 ⟨v', rfl, hrk, hl2⟩
  obtain ⟨sa, sc, rfl⟩ := hrk.shape
  have hB : w.heap.size < w1.heap.size := HK1.out.lt
  have hk2 := HK1.out.below (E4.lay_below hl2)
  have hk3 := hk2.set12 2 (.slice sa a.all.length sc)
  simp only [List.setIfInBounds_toArray, List.set_cons_succ, List.set_cons_zero] at hk3
  have hb3 : Below w.heap.size w (w2.setCell ⟨w.heap.size, 2, none⟩ (.slice sa a.all.length sc)) := by
    have h := below_mid12 HB1.out (E4.lay_below hl2)
    exact ⟨h.os, h.tape, h.output, by simpa [World.setCell] using h.size, fun b hb => (Below.heap_setCell _ ⟨w.heap.size, 2, none⟩ _ b (Nat.ne_of_lt hb)).trans (h.block b hb)⟩
  have hrk3 : Rk 1 (fun k => w1.heap.size ≤ k) (w2.setCell ⟨w.heap.size, 2, none⟩ (.slice sa a.all.length sc)) (.slice sa a.all.length sc) a.all.length xs := hrk.carry (by simp [World.setCell]) fun q hq _ _ => Below.heap_setCell _ ⟨w.heap.size, 2, none⟩ _ q (by show q ≠ w.heap.size; omega)
  have hrv3 : RowsV (w2.setCell ⟨w.heap.size, 2, none⟩ (.slice sa a.all.length sc)) (fun q => (G q ∨ w.heap.size ≤ q) ∧ ¬ At (.slice sa a.all.length sc) q) a.all xs :=
    HXS.out.carry hb3.size (fun b _ hb => hb3.block b hb) fun b hb hlt => ⟨.inl hb, fun ha => by have := (hrk.at ha).1; omega⟩
  have c2 := hk2.cell 2
  have z2 := hk2.frozen 2
  simp only [List.getElem?_toArray, List.getElem?_cons_succ, List.getElem?_cons_zero] at c2
  have HK3 := Lib.hid hk3
  have HB3 := Lib.hid hb3
  have HRK3 := Lib.hid hrk3
  have HRV3 := Lib.hid hrv3
  have HBB := Lib.hid hB
  clear hrk hl2 hk2 hk3 hb3 hrk3 hrv3 hB HCL HB1 HK1 HXS
  go_upto_region 5 with fail
  generalize w2.setCell ⟨w.heap.size, 2, none⟩ (.slice sa a.all.length sc) = w3 at HK3 HB3 HRK3 HRV3 ⊢
  have d2 := HK3.out.cell 2
  simp only [List.getElem?_toArray, List.getElem?_cons_succ, List.getElem?_cons_zero] at d2
  clear c2 z2
  go_wp2_with fail
  clear d2
  go_loopw [18] (fun vi wr => ∃ (k : Nat) (ys : List Value), vi = .int .i64 k ∧ k ≤ a.all.length ∧ Rk 1 (fun k => w1.heap.size ≤ k) wr (.slice sa a.all.length sc) a.all.length ys ∧ RowsV wr (fun q => (G q ∨ w.heap.size ≤ q) ∧ ¬ At (.slice sa a.all.length sc) q) a.all ys ∧ Bl wr w.heap.size 63 #[.int .i64 a.src, .int .i64 a.til, .slice sa a.all.length sc] ∧ Below w.heap.size w wr) (fun vi _ => a.all.length - (intOf vi).toNat)
  case atStart => exact ⟨0, xs, rfl, Nat.zero_le _, HRK3.out, HRV3.out, HK3.out, HB3.out⟩
  case round =>
    obtain ⟨k, ys, rfl, hk, hrk, hrv, hbl, hbw⟩ := hrel
    have HRK := Lib.hid hrk
    have HRV := Lib.hid hrv
    have HBL := Lib.hid hbl
    have HBW := Lib.hid hbw
    by_cases hlt : k < a.all.length
    · obtain ⟨hy0, ⟨_, h0⟩ | ⟨g, cap, he, hG, hg, hnc, hmx, hcell, hfz⟩⟩ := hrk
      · omega
      obtain ⟨rfl, rfl⟩ : sa = some ⟨g, 0, none⟩ ∧ sc = cap := by simpa using he
      obtain ⟨u, hu, hsg⟩ := hrv.2 k hlt
      have hx : wr.cell? ⟨g, k, none⟩ = some u := (hcell k (by omega)).trans hu
      have hz : wr.frozen? ⟨g, k, none⟩ = false := (hfz k (by omega)).2
      have hcl := fun W hW => cloneS_any (w := W) (StrsAt.below hsg.at hW) (by have := HR.out _ (List.getElem_mem hlt); omega)
      have hug : u.oneCell' = true := hsg.one
      have c2 := hbl.cell 2
      have hBg : w.heap.size ≠ g := by have := HBB.out; omega
      simp only [List.getElem?_toArray, List.getElem?_cons_succ, List.getElem?_cons_zero] at c2
      have HCL := Lib.hid hcl
      have HDR : Hid (Below wr.heap.size wr wr.drew) := Lib.hid ⟨rfl, rfl, rfl, Nat.le_refl _, fun _ _ => rfl⟩
      clear hy0 he hnc hmx hcell hfz hrv hsg hbl hbw hcl hu
      go_upto_region 8 with fail
      go_region_law (go_simp; (go_at_call 98; refine (HCL.out _ HDR.out).mono ?_; rintro e w4 ⟨v4, rfl, hrk4, hl4⟩; have x4 := (Lay.block hl4 hg); have y2 := (World.cell?_of_block (a := ⟨w.heap.size, 2, none⟩) (Lay.block hl4 HBL.out.lt)).trans c2; have y4 := (World.cell?_of_block (a := ⟨g, k, none⟩) x4).trans hx; have y5 := (World.frozen?_of_block (a := ⟨g, k, none⟩) x4).trans hz; obtain ⟨sb, sd, rfl⟩ := hrk4.shape; have HRK4 := Lib.hid hrk4; have HL4 := Lib.hid hl4; clear hrk4 hl4 x4))
      all_goals
        have hlay : Lay wr w4 := Keep.trans (Keep.drew (Keep.refl _ wr)) HL4.out
        have hg4 : g < w4.heap.size := Nat.lt_of_lt_of_le hg hlay.size
        have hrk5 := Rk.setC (HRK.out.carry hlay.size fun q _ _ hq => Lay.block hlay hq) k hlt (.slice sb (a.all[k]).length sd)
        have hsg5 : SG (fun q => (G q ∨ w.heap.size ≤ q) ∧ ¬ At (.slice (some ⟨g, 0, none⟩) a.all.length sc) q) (w4.setCell ⟨g, k, none⟩ (.slice sb (a.all[k]).length sd)) (.slice sb (a.all[k]).length sd) a.all[k] :=
          (sg_of_rk HRK4.out (HR.out _ (List.getElem_mem hlt))).carry (by simp [World.setCell]) (fun q hq _ => Below.heap_setCell _ ⟨g, k, none⟩ _ q (by have h2 : wr.heap.size ≤ q := hq; show q ≠ g; omega)) fun q hq _ => ⟨.inr (by have h2 : wr.heap.size ≤ q := hq; have := HBW.out.size; omega), fun ha => by
            obtain ⟨n, c, e⟩ := ha
            have h2 : wr.heap.size ≤ q := hq
            simp only [Value.slice.injEq, Option.some.injEq, Addr.mk.injEq, and_true] at e
            omega⟩
        have hrv5 : RowsV (w4.setCell ⟨g, k, none⟩ (.slice sb (a.all[k]).length sd)) (fun q => (G q ∨ w.heap.size ≤ q) ∧ ¬ At (.slice (some ⟨g, 0, none⟩) a.all.length sc) q) a.all (ys.set k (.slice sb (a.all[k]).length sd)) :=
          ((HRV.out.carry hlay.size (fun q _ hq => Lay.block hlay hq) fun _ h _ => h).carry (w' := w4.setCell ⟨g, k, none⟩ (.slice sb (a.all[k]).length sd)) (by simp [World.setCell]) (fun q hq _ => Below.heap_setCell _ ⟨g, k, none⟩ _ q (fun e => hq.2 (by show At _ q; rw [show q = g from e]; exact ⟨_, _, rfl⟩))) fun _ h _ => h).set k hlt hsg5
        have hbl5 : Bl (w4.setCell ⟨g, k, none⟩ (.slice sb (a.all[k]).length sd)) w.heap.size 63 #[.int .i64 a.src, .int .i64 a.til, .slice (some ⟨g, 0, none⟩) a.all.length sc] :=
          (Below.heap_setCell _ ⟨g, k, none⟩ _ w.heap.size hBg).trans ((Lay.block hlay HBL.out.lt).trans HBL.out)
        have hbw5 : Below w.heap.size w (w4.setCell ⟨g, k, none⟩ (.slice sb (a.all[k]).length sd)) := by
          have h := below_mid12 HBW.out (E4.lay_below hlay)
          have hgg := HBB.out
          exact ⟨h.os, h.tape, h.output, by simpa [World.setCell] using h.size, fun b hb => (Below.heap_setCell _ ⟨g, k, none⟩ _ b (by show b ≠ g; omega)).trans (h.block b hb)⟩
        have HRK5 := Lib.hid hrk5
        have HRV5 := Lib.hid hrv5
        have HBL5 := Lib.hid hbl5
        have HBW5 := Lib.hid hbw5
        clear hlay hrk5 hsg5 hrv5 hbl5 hbw5 y2 y4 y5 hx hz c2 hug
        go_wp2_with fail
        go_roundw
        case rel => exact ⟨k + 1, _, by go_num, by omega, HRK5.out, HRV5.out, HBL5.out, HBW5.out⟩
        case measure => simp [intOf]; omega
    · obtain rfl : k = a.all.length := by omega
      have HTX := Lib.hid (texts_of (I := fun q => G q ∨ w.heap.size ≤ q) hrk hrv hn (fun q hq => .inr (by have := HBB.out; have h2 : w1.heap.size ≤ q := hq; omega)) fun q hq => hq.1)
      have c0 := hbl.cell 0
      have c1 := hbl.cell 1
      have c2 := hbl.cell 2
      simp only [List.getElem?_toArray, List.getElem?_cons_succ, List.getElem?_cons_zero] at c0 c1 c2
      clear hrk hrv hbl hbw
      go_wp2_with fail
      go_ret
      exact ⟨.slice sa a.all.length sc, by rw [HD.out]; rfl, HTX.out, HBW.out⟩
set_option maxHeartbeats 2000000 in
set_option maxRecDepth 100000 in
theorem copied2 (a : Ask) (k2 : a.kd = 2) (av mv : Value) (w : World) (h2 : MsAt w mv a.mat) (hn : a.mat.length ≤ 1000) :
    Calls Tryz.prog 83 #[a.dyn av mv] w fun e w' => ∃ mv', e = .returned (a.dyn av mv') ∧ Rk 3 (fun q => w.heap.size ≤ q) w' mv' a.mat.length (flatM a.mat) ∧ Below w.heap.size w w' := by
  have q1 := is63_yes
  have q2 := is63_nil
  have q3 := is63_no76
  have q4 := is63_no78
  have r1 := is76_yes
  have r2 := is76_nil
  have r3 := is76_no78
  obtain ⟨aa, ca, rfl, hz1, hz2⟩ := id h2
  clear hz1 hz2
  obtain ⟨w1, hw1⟩ : ∃ w1, w1 = w.alloc (.cells #[.int .i64 a.src, .int .i64 a.til, .slice aa a.mat.length ca] 76) := ⟨_, rfl⟩
  have hl1 : Lay w w1 := by rw [hw1]; exact (Keep.refl _ w).alloc _
  have hk1 : Bl w1 w.heap.size 76 #[.int .i64 a.src, .int .i64 a.til, .slice aa a.mat.length ca] := by rw [hw1]; exact Bl.new w 76 _
  have hb1 := E4.lay_below hl1
  have HCL := Lib.hid (cloneM12_any (MsAt.below12 h2 hb1) (by omega))
  have HD := Lib.hid (fun v => dyn2 k2 av v)
  have hd0 := dyn2 k2 av (.slice aa a.mat.length ca)
  have HW1 := Lib.hid hw1.symm
  have HB1 := Lib.hid hb1
  have HK1 := Lib.hid hk1
  have c2 := hk1.cell 2
  simp only [List.getElem?_toArray, List.getElem?_cons_succ, List.getElem?_cons_zero] at c2
  rw [hd0]
  clear hd0 k2 h2 hw1 hl1 hk1 hb1
  go_enter Tryz.func83, Tryz.ntmps83
  go_upto_region 13 with fail
  rw [HW1.out]
  go_wp2_with fail
  refine HCL.out.mono ?_
  rintro e w2 ⟨v', rfl, hrk, hl2⟩
  obtain ⟨sa, sc, rfl⟩ := hrk.shape
  have hB : w.heap.size < w1.heap.size := HK1.out.lt
  have hk2 := HK1.out.below (E4.lay_below hl2)
  have hk3 := hk2.set12 2 (.slice sa a.mat.length sc)
  simp only [List.setIfInBounds_toArray, List.set_cons_succ, List.set_cons_zero] at hk3
  have hb3 : Below w.heap.size w (w2.setCell ⟨w.heap.size, 2, none⟩ (.slice sa a.mat.length sc)) := by
    have h := below_mid12 HB1.out (E4.lay_below hl2)
    exact ⟨h.os, h.tape, h.output, by simpa [World.setCell] using h.size, fun b hb => (Below.heap_setCell _ ⟨w.heap.size, 2, none⟩ _ b (Nat.ne_of_lt hb)).trans (h.block b hb)⟩
  have hrk3 : Rk 3 (fun k => w1.heap.size ≤ k) (w2.setCell ⟨w.heap.size, 2, none⟩ (.slice sa a.mat.length sc)) (.slice sa a.mat.length sc) a.mat.length (flatM a.mat) := hrk.carry (by simp [World.setCell]) fun q hq _ _ => Below.heap_setCell _ ⟨w.heap.size, 2, none⟩ _ q (by show q ≠ w.heap.size; omega)
  have HMS := Lib.hid (hrk3.mono (G' := fun q => w.heap.size ≤ q) fun q hq _ => by have h2 : w1.heap.size ≤ q := hq; omega)
  have c2 := hk2.cell 2
  have z2 := hk2.frozen 2
  simp only [List.getElem?_toArray, List.getElem?_cons_succ, List.getElem?_cons_zero] at c2
  have HK3 := Lib.hid hk3
  have HB3 := Lib.hid hb3
  clear hrk hl2 hk2 hk3 hb3 hrk3 hB HCL HB1 HK1
  go_upto_region 14 with fail
  generalize w2.setCell ⟨w.heap.size, 2, none⟩ (.slice sa a.mat.length sc) = w3 at HK3 HB3 HMS ⊢
  have d0 := HK3.out.cell 0
  have d1 := HK3.out.cell 1
  have d2 := HK3.out.cell 2
  simp only [List.getElem?_toArray, List.getElem?_cons_succ, List.getElem?_cons_zero] at d0 d1 d2
  clear c2 z2
  go_wp2_with fail
  go_ret
  exact ⟨.slice sa a.mat.length sc, by rw [HD.out]; rfl, HMS.out, HB3.out⟩
set_option maxRecDepth 100000 in
theorem copied3 (a : Ask) (h1 : ¬ a.kd = 1) (h2 : ¬ a.kd = 2) (av mv : Value) (w : World) :
    Calls Tryz.prog 83 #[a.dyn av mv] w fun e w' => e = .returned (a.dyn av mv) ∧ w' = w := by
  have q1 := is63_yes
  have q2 := is63_nil
  have q3 := is63_no76
  have q4 := is63_no78
  have r1 := is76_yes
  have r2 := is76_nil
  have r3 := is76_no78
  by_cases h3 : a.kd = 3
  · rw [dyn3 h3]
    clear h1 h2 h3
    go_enter Tryz.func83, Tryz.ntmps83
    go_wp2_with fail
    go_ret
    exact ⟨rfl, rfl⟩
  · rw [dyn0 (by omega)]
    clear h1 h2 h3
    go_enter Tryz.func83, Tryz.ntmps83
    go_wp2_with fail
    go_ret
    exact ⟨rfl, rfl⟩
theorem copied_any (a : Ask) (av mv : Value) (w : World) (h1 : TextsAt w av a.all) (h2 : MsAt w mv a.mat) (hn : a.all.length ≤ 1000) (hr : ∀ l ∈ a.all, l.length ≤ 1000) (hm : a.mat.length ≤ 1000) :
    Calls Tryz.prog 83 #[a.dyn av mv] w fun e w' => ∃ av' mv', e = .returned (a.dyn av' mv') ∧ TextsAt w' av' a.all ∧ MsAt w' mv' a.mat ∧ Below w.heap.size w w' := by
  by_cases k1 : a.kd = 1
  · exact (copied1 a k1 av mv w (TextsG.of h1) (fun _ h => h) hn hr).mono fun e w' ⟨v, he, ht, hb⟩ => ⟨v, mv, he, ht.at, MsAt.below12 h2 hb, hb⟩
  by_cases k2 : a.kd = 2
  · exact (copied2 a k2 av mv w h2 hm).mono fun e w' ⟨v, he, ht, hb⟩ => ⟨av, v, he, h1.below hb, ms_of_rk ht hm, hb⟩
  · exact (copied3 a k1 k2 av mv w).mono fun e w' ⟨he, hw⟩ => ⟨av, mv, he, by rw [hw]; exact h1, by rw [hw]; exact h2, by rw [hw]; exact Below.refl _ _⟩
end Go.Proofs.YtoobjjpheegmdaaGreat.E4
