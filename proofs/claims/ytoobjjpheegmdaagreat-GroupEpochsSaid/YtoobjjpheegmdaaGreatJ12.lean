/-
  Cd12, Bb14.
-/
import Derived.Test.YtoobjjpheegmdaaGreatJ11
import Derived.Test.YtoobjjpheegmdaaGreatJ07
import Derived.Test.YtoobjjpheegmdaaGreatJ09
import Derived.Test.YtoobjjpheegmdaaGreatJ10
namespace Go.Proofs.YtoobjjpheegmdaaGreat.E4
open Go.RowKit Go
theorem texts_of {G H I : Nat → Prop} {w : World} {v : Value} {rows : List (List ByteArray)} {xs : List Value} (h : Rk 1 G w v rows.length xs) (hr : RowsV w H rows xs) (hl : rows.length ≤ 1000) (hG : ∀ q, G q → I q) (hH : ∀ q, H q → I q) : TextsG I w v rows := by
  obtain ⟨hn, ⟨rfl, h0⟩ | ⟨g, cap, rfl, hg, hlt, _, _, hc, _⟩⟩ := h
  · have : rows = [] := List.eq_nil_of_length_eq_zero h0
    subst this
    exact ⟨none, 0, rfl, by simp, .inl rfl⟩
  · refine ⟨_, cap, rfl, by omega, .inr ⟨g, 0, rfl, hG g hg, hlt, fun i hi => ?_⟩⟩
    obtain ⟨u, hu, hs⟩ := hr.2 i hi
    refine ⟨u, ?_, hs.carry (Nat.le_refl _) (fun _ _ _ => rfl) fun q hq _ => hH q hq⟩
    rw [Nat.zero_add, hc i (by omega), hu]
theorem Bl.set12 {W : World} {B : Nat} {t : TypeId} {arr : Array Value} (h : Bl W B t arr) (i : Nat) (u : Value) : Bl (W.setCell ⟨B, i, none⟩ u) B t (arr.setIfInBounds i u) := by
  obtain ⟨hlt, hk⟩ := Array.getElem?_eq_some_iff.1 h
  show (W.heap.modify B _)[B]? = _
  rw [Array.getElem?_eq_getElem (by rw [Array.size_modify]; exact hlt), Array.getElem_modify_self, hk]
  rfl
theorem RowsV.carry {w w' : World} {G H : Nat → Prop} {rows : List (List ByteArray)} {xs : List Value} (h : RowsV w G rows xs) (hs : w.heap.size ≤ w'.heap.size) (hb : ∀ b, G b → b < w.heap.size → w'.heap[b]? = w.heap[b]?) (hG : ∀ b, G b → b < w.heap.size → H b) : RowsV w' H rows xs :=
  ⟨h.1, fun i hi => by
    obtain ⟨u, hu, hs'⟩ := h.2 i hi
    exact ⟨u, hu, hs'.carry hs hb hG⟩⟩
theorem RowsV.set {w : World} {G : Nat → Prop} {rows : List (List ByteArray)} {xs : List Value} (h : RowsV w G rows xs) (k : Nat) (hk : k < rows.length) {u : Value} (hu : SG G w u rows[k]) : RowsV w G rows (xs.set k u) := by
  refine ⟨by rw [List.length_set]; exact h.1, fun i hi => ?_⟩
  by_cases e : k = i
  · subst e
    exact ⟨u, List.getElem?_set_self (by rw [h.1]; exact hk), hu⟩
  · obtain ⟨v, hv, hs⟩ := h.2 i hi
    exact ⟨v, by rw [List.getElem?_set_ne e]; exact hv, hs⟩
theorem Rk.setC {G : Nat → Prop} {w : World} {g n cap : Nat} {xs : List Value} (h : Rk 1 G w (.slice (some ⟨g, 0, none⟩) n cap) n xs) (k : Nat) (hk : k < n) (u : Value) : Rk 1 G (w.setCell ⟨g, k, none⟩ u) (.slice (some ⟨g, 0, none⟩) n cap) n (xs.set k u) := by
  obtain ⟨h0, ⟨h, _⟩ | ⟨g', cap', he, hG, hlt, hn, hm, hc, hf⟩⟩ := h
  · cases h
  · obtain ⟨rfl, rfl⟩ : g' = g ∧ cap' = cap := by simpa [eq_comm] using he
    have hsome := hf k (by omega)
    refine ⟨by rw [List.length_set]; exact h0, .inr ⟨g', cap', rfl, hG, by simpa [World.setCell] using hlt, hn, hm, fun j hj => ?_, fun j hj => ?_⟩⟩
    · rw [List.length_set] at hj
      by_cases e : k = j
      · subst e
        rw [List.getElem?_set_self hj]
        have hs := hsome.1
        go_simp
      · rw [List.getElem?_set_ne e, ← hc j hj]
        go_simp
    · have := hf j hj
      refine ⟨?_, (World.frozen?_setCell _ _ _ _).trans this.2⟩
      by_cases e : k = j
      · subst e
        have hs := this.1
        go_simp
      · have hs := this.1
        go_simp
set_option maxHeartbeats 2000000 in
set_option maxRecDepth 100000 in
theorem copied1 {G : Nat → Prop} (a : Ask) (k1 : a.kd = 1) (av mv : Value) (w : World) (h1 : TextsG G w av a.all) (hGw : ∀ q, G q → q < w.heap.size) (hn : a.all.length ≤ 1000) (hr : ∀ l ∈ a.all, l.length ≤ 1000) :
    Calls Tryz.prog 83 #[a.dyn av mv] w fun e w' => ∃ av', e = .returned (a.dyn av' mv) ∧ TextsG (fun q => G q ∨ w.heap.size ≤ q) w' av' a.all ∧ Below w.heap.size w w' := by
  have q1 := is63_yes
  have q2 := is63_nil
  have q3 := is63_no76
  have q4 := is63_no78
  have r1 := is76_yes
  have r2 := is76_nil
  have r3 := is76_no78
  obtain ⟨xs, hxs, hsr⟩ := rows_src h1
  obtain ⟨aa, ca, rfl, hz1, hz2⟩ := id h1
  clear hz1 hz2
  obtain ⟨w1, hw1⟩ : ∃ w1, w1 = w.alloc (.cells #[.int .i64 a.src, .int .i64 a.til, .slice aa a.all.length ca] 63) := ⟨_, rfl⟩
  have hl1 : Lay w w1 := by rw [hw1]; exact (Keep.refl _ w).alloc _
  have hk1 : Bl w1 w.heap.size 63 #[.int .i64 a.src, .int .i64 a.til, .slice aa a.all.length ca] := by rw [hw1]; exact Bl.new w 63 _
  have hb1 := E4.lay_below hl1
  have HCL := Lib.hid (cloneR_any (h1.at.below hb1) hxs.1 (fun w2 hl2 => hsr w2 (hl1.trans hl2)) (by omega))
  have HD := Lib.hid (fun v => dyn1 k1 v mv)
  have hd0 := dyn1 k1 (.slice aa a.all.length ca) mv
  have HW1 := Lib.hid hw1.symm
  have HB1 := Lib.hid hb1
  have HK1 := Lib.hid hk1
  have HXS := Lib.hid hxs
  have HR := Lib.hid hr
  have c2 := hk1.cell 2
  have z2 := hk1.frozen 2
  simp only [List.getElem?_toArray, List.getElem?_cons_succ, List.getElem?_cons_zero] at c2
  rw [hd0]
  clear hd0 k1 h1 hxs hsr hw1 hl1 hk1 hb1 hr
  go_enter Tryz.func83, Tryz.ntmps83
  go_upto_region 4 with fail
  rw [HW1.out]
  go_wp2_with fail
  refine HCL.out.mono ?_
  rintro e w2 ⟨v', rfl, hrk, hl2⟩
  obtain ⟨sa, sc, rfl⟩ := hrk.shape
  have hB : w.heap.size < w1.heap.size := HK1.out.lt
  have hk2 := HK1.out.below (E4.lay_below hl2)
  have hk3 := hk2.set12 2 (.slice sa a.all.length sc)
  simp only [List.setIfInBounds_toArray, List.set_cons_succ, List.set_cons_zero] at hk3
  have hb3 : Below w.heap.size w (w2.setCell ⟨w.heap.size, 2, none⟩ (.slice sa a.all.length sc)) := by
    have h := below_mid12 HB1.out (E4.lay_below hl2)
    exact ⟨h.os, h.tape, h.output, by simpa [World.setCell] using h.size, fun b hb => (Below.heap_setCell _ ⟨w.heap.size, 2, none⟩ _ b (Nat.ne_of_lt hb)).trans (h.block b hb)⟩
  have hrk3 : Rk 1 (fun k => w1.heap.size ≤ k) (w2.setCell ⟨w.heap.size, 2, none⟩ (.slice sa a.all.length sc)) (.slice sa a.all.length sc) a.all.length xs := hrk.carry (by simp [World.setCell]) fun q hq _ _ => Below.heap_setCell _ ⟨w.heap.size, 2, none⟩ _ q (by show q ≠ w.heap.size; omega)
  have hrv3 : RowsV (w2.setCell ⟨w.heap.size, 2, none⟩ (.slice sa a.all.length sc)) (fun q => (G q ∨ w.heap.size ≤ q) ∧ ¬ At (.slice sa a.all.length sc) q) a.all xs :=
    HXS.out.carry hb3.size (fun b _ hb => hb3.block b hb) fun b hb hlt => ⟨.inl hb, fun ha => by have := (hrk.at ha).1; omega⟩
  have c2 := hk2.cell 2
  have z2 := hk2.frozen 2
  simp only [List.getElem?_toArray, List.getElem?_cons_succ, List.getElem?_cons_zero] at c2
  have HK3 := Lib.hid hk3
  have HB3 := Lib.hid hb3
  have HRK3 := Lib.hid hrk3
  have HRV3 := Lib.hid hrv3
  have HBB := Lib.hid hB
  clear hrk hl2 hk2 hk3 hb3 hrk3 hrv3 hB HCL HB1 HK1 HXS
  go_upto_region 5 with fail
  generalize w2.setCell ⟨w.heap.size, 2, none⟩ (.slice sa a.all.length sc) = w3 at HK3 HB3 HRK3 HRV3 ⊢
  have d2 := HK3.out.cell 2
  simp only [List.getElem?_toArray, List.getElem?_cons_succ, List.getElem?_cons_zero] at d2
  clear c2 z2
  go_wp2_with fail
  clear d2
  go_loopw [18] (fun vi wr => ∃ (k : Nat) (ys : List Value), vi = .int .i64 k ∧ k ≤ a.all.length ∧ Rk 1 (fun k => w1.heap.size ≤ k) wr (.slice sa a.all.length sc) a.all.length ys ∧ RowsV wr (fun q => (G q ∨ w.heap.size ≤ q) ∧ ¬ At (.slice sa a.all.length sc) q) a.all ys ∧ Bl wr w.heap.size 63 #[.int .i64 a.src, .int .i64 a.til, .slice sa a.all.length sc] ∧ Below w.heap.size w wr) (fun vi _ => a.all.length - (intOf vi).toNat)
  case atStart => exact ⟨0, xs, rfl, Nat.zero_le _, HRK3.out, HRV3.out, HK3.out, HB3.out⟩
  case round =>
    obtain ⟨k, ys, rfl, hk, hrk, hrv, hbl, hbw⟩ := hrel
    have HRK := Lib.hid hrk
    have HRV := Lib.hid hrv
    have HBL := Lib.hid hbl
    have HBW := Lib.hid hbw
    by_cases hlt : k < a.all.length
    · obtain ⟨hy0, ⟨_, h0⟩ | ⟨g, cap, he, hG, hg, hnc, hmx, hcell, hfz⟩⟩ := hrk
      · omega
      obtain ⟨rfl, rfl⟩ : sa = some ⟨g, 0, none⟩ ∧ sc = cap := by simpa using he
      obtain ⟨u, hu, hsg⟩ := hrv.2 k hlt
      have hx : wr.cell? ⟨g, k, none⟩ = some u := (hcell k (by omega)).trans hu
      have hz : wr.frozen? ⟨g, k, none⟩ = false := (hfz k (by omega)).2
      have hcl := fun W hW => cloneS_any (w := W) (StrsAt.below hsg.at hW) (by have := HR.out _ (List.getElem_mem hlt); omega)
      have hug : u.oneCell' = true := hsg.one
      have c2 := hbl.cell 2
      have hBg : w.heap.size ≠ g := by have := HBB.out; omega
      simp only [List.getElem?_toArray, List.getElem?_cons_succ, List.getElem?_cons_zero] at c2
      have HCL := Lib.hid hcl
      have HDR : Hid (Below wr.heap.size wr wr.drew) := Lib.hid ⟨rfl, rfl, rfl, Nat.le_refl _, fun _ _ => rfl⟩
      clear hy0 he hnc hmx hcell hfz hrv hsg hbl hbw hcl hu
      go_upto_region 8 with fail
      go_region_law (go_simp; (go_at_call 98; refine (HCL.out _ HDR.out).mono ?_; rintro e w4 ⟨v4, rfl, hrk4, hl4⟩; have x4 := (Lay.block hl4 hg); have y2 := (World.cell?_of_block (a := ⟨w.heap.size, 2, none⟩) (Lay.block hl4 HBL.out.lt)).trans c2; have y4 := (World.cell?_of_block (a := ⟨g, k, none⟩) x4).trans hx; have y5 := (World.frozen?_of_block (a := ⟨g, k, none⟩) x4).trans hz; obtain ⟨sb, sd, rfl⟩ := hrk4.shape; have HRK4 := Lib.hid hrk4; have HL4 := Lib.hid hl4; clear hrk4 hl4 x4))
      all_goals
        have hlay : Lay wr w4 := Keep.trans (Keep.drew (Keep.refl _ wr)) HL4.out
        have hg4 : g < w4.heap.size := Nat.lt_of_lt_of_le hg hlay.size
        have hrk5 := Rk.setC (HRK.out.carry hlay.size fun q _ _ hq => Lay.block hlay hq) k hlt (.slice sb (a.all[k]).length sd)
        have hsg5 : SG (fun q => (G q ∨ w.heap.size ≤ q) ∧ ¬ At (.slice (some ⟨g, 0, none⟩) a.all.length sc) q) (w4.setCell ⟨g, k, none⟩ (.slice sb (a.all[k]).length sd)) (.slice sb (a.all[k]).length sd) a.all[k] :=
          (sg_of_rk HRK4.out (HR.out _ (List.getElem_mem hlt))).carry (by simp [World.setCell]) (fun q hq _ => Below.heap_setCell _ ⟨g, k, none⟩ _ q (by have h2 : wr.heap.size ≤ q := hq; show q ≠ g; omega)) fun q hq _ => ⟨.inr (by have h2 : wr.heap.size ≤ q := hq; have := HBW.out.size; omega), fun ha => by
            obtain ⟨n, c, e⟩ := ha
            have h2 : wr.heap.size ≤ q := hq
            simp only [Value.slice.injEq, Option.some.injEq, Addr.mk.injEq, and_true] at e
            omega⟩
        have hrv5 : RowsV (w4.setCell ⟨g, k, none⟩ (.slice sb (a.all[k]).length sd)) (fun q => (G q ∨ w.heap.size ≤ q) ∧ ¬ At (.slice (some ⟨g, 0, none⟩) a.all.length sc) q) a.all (ys.set k (.slice sb (a.all[k]).length sd)) :=
          ((HRV.out.carry hlay.size (fun q _ hq => Lay.block hlay hq) fun _ h _ => h).carry (w' := w4.setCell ⟨g, k, none⟩ (.slice sb (a.all[k]).length sd)) (by simp [World.setCell]) (fun q hq _ => Below.heap_setCell _ ⟨g, k, none⟩ _ q (fun e => hq.2 (by show At _ q; rw [show q = g from e]; exact ⟨_, _, rfl⟩))) fun _ h _ => h).set k hlt hsg5
        have hbl5 : Bl (w4.setCell ⟨g, k, none⟩ (.slice sb (a.all[k]).length sd)) w.heap.size 63 #[.int .i64 a.src, .int .i64 a.til, .slice (some ⟨g, 0, none⟩) a.all.length sc] :=
          (Below.heap_setCell _ ⟨g, k, none⟩ _ w.heap.size hBg).trans ((Lay.block hlay HBL.out.lt).trans HBL.out)
        have hbw5 : Below w.heap.size w (w4.setCell ⟨g, k, none⟩ (.slice sb (a.all[k]).length sd)) := by
          have h := below_mid12 HBW.out (E4.lay_below hlay)
          have hgg := HBB.out
          exact ⟨h.os, h.tape, h.output, by simpa [World.setCell] using h.size, fun b hb => (Below.heap_setCell _ ⟨g, k, none⟩ _ b (by show b ≠ g; omega)).trans (h.block b hb)⟩
        have HRK5 := Lib.hid hrk5
        have HRV5 := Lib.hid hrv5
        have HBL5 := Lib.hid hbl5
        have HBW5 := Lib.hid hbw5
        clear hlay hrk5 hsg5 hrv5 hbl5 hbw5 y2 y4 y5 hx hz c2 hug
        go_wp2_with fail
        go_roundw
        case rel => exact ⟨k + 1, _, by go_num, by omega, HRK5.out, HRV5.out, HBL5.out, HBW5.out⟩
        case measure => simp [intOf]; omega
    · obtain rfl : k = a.all.length := by omega
      have HTX := Lib.hid (texts_of (I := fun q => G q ∨ w.heap.size ≤ q) hrk hrv hn (fun q hq => .inr (by have := HBB.out; have h2 : w1.heap.size ≤ q := hq; omega)) fun q hq => hq.1)
      have c0 := hbl.cell 0
      have c1 := hbl.cell 1
      have c2 := hbl.cell 2
      simp only [List.getElem?_toArray, List.getElem?_cons_succ, List.getElem?_cons_zero] at c0 c1 c2
      clear hrk hrv hbl hbw
      go_wp2_with fail
      go_ret
      exact ⟨.slice sa a.all.length sc, by rw [HD.out]; rfl, HTX.out, HBW.out⟩
set_option maxHeartbeats 2000000 in
set_option maxRecDepth 100000 in
theorem copied2 (a : Ask) (k2 : a.kd = 2) (av mv : Value) (w : World) (h2 : MsAt w mv a.mat) (hn : a.mat.length ≤ 1000) :
    Calls Tryz.prog 83 #[a.dyn av mv] w fun e w' => ∃ mv', e = .returned (a.dyn av mv') ∧ Rk 3 (fun q => w.heap.size ≤ q) w' mv' a.mat.length (flatM a.mat) ∧ Below w.heap.size w w' := by
  have q1 := is63_yes
  have q2 := is63_nil
  have q3 := is63_no76
  have q4 := is63_no78
  have r1 := is76_yes
  have r2 := is76_nil
  have r3 := is76_no78
  obtain ⟨aa, ca, rfl, hz1, hz2⟩ := id h2
  clear hz1 hz2
  obtain ⟨w1, hw1⟩ : ∃ w1, w1 = w.alloc (.cells #[.int .i64 a.src, .int .i64 a.til, .slice aa a.mat.length ca] 76) := ⟨_, rfl⟩
  have hl1 : Lay w w1 := by rw [hw1]; exact (Keep.refl _ w).alloc _
  have hk1 : Bl w1 w.heap.size 76 #[.int .i64 a.src, .int .i64 a.til, .slice aa a.mat.length ca] := by rw [hw1]; exact Bl.new w 76 _
  have hb1 := E4.lay_below hl1
  have HCL := Lib.hid (cloneM12_any (MsAt.below12 h2 hb1) (by omega))
  have HD := Lib.hid (fun v => dyn2 k2 av v)
  have hd0 := dyn2 k2 av (.slice aa a.mat.length ca)
  have HW1 := Lib.hid hw1.symm
  have HB1 := Lib.hid hb1
  have HK1 := Lib.hid hk1
  have c2 := hk1.cell 2
  simp only [List.getElem?_toArray, List.getElem?_cons_succ, List.getElem?_cons_zero] at c2
  rw [hd0]
  clear hd0 k2 h2 hw1 hl1 hk1 hb1
  go_enter Tryz.func83, Tryz.ntmps83
  go_upto_region 13 with fail
  rw [HW1.out]
  go_wp2_with fail
  refine HCL.out.mono ?_
  rintro e w2 ⟨v', rfl, hrk, hl2⟩
  obtain ⟨sa, sc, rfl⟩ := hrk.shape
  have hB : w.heap.size < w1.heap.size := HK1.out.lt
  have hk2 := HK1.out.below (E4.lay_below hl2)
  have hk3 := hk2.set12 2 (.slice sa a.mat.length sc)
  simp only [List.setIfInBounds_toArray, List.set_cons_succ, List.set_cons_zero] at hk3
  have hb3 : Below w.heap.size w (w2.setCell ⟨w.heap.size, 2, none⟩ (.slice sa a.mat.length sc)) := by
    have h := below_mid12 HB1.out (E4.lay_below hl2)
    exact ⟨h.os, h.tape, h.output, by simpa [World.setCell] using h.size, fun b hb => (Below.heap_setCell _ ⟨w.heap.size, 2, none⟩ _ b (Nat.ne_of_lt hb)).trans (h.block b hb)⟩
  have hrk3 : Rk 3 (fun k => w1.heap.size ≤ k) (w2.setCell ⟨w.heap.size, 2, none⟩ (.slice sa a.mat.length sc)) (.slice sa a.mat.length sc) a.mat.length (flatM a.mat) := hrk.carry (by simp [World.setCell]) fun q hq _ _ => Below.heap_setCell _ ⟨w.heap.size, 2, none⟩ _ q (by show q ≠ w.heap.size; omega)
  have HMS := Lib.hid (hrk3.mono (G' := fun q => w.heap.size ≤ q) fun q hq _ => by have h2 : w1.heap.size ≤ q := hq; omega)
  have c2 := hk2.cell 2
  have z2 := hk2.frozen 2
  simp only [List.getElem?_toArray, List.getElem?_cons_succ, List.getElem?_cons_zero] at c2
  have HK3 := Lib.hid hk3
  have HB3 := Lib.hid hb3
  clear hrk hl2 hk2 hk3 hb3 hrk3 hB HCL HB1 HK1
  go_upto_region 14 with fail
  generalize w2.setCell ⟨w.heap.size, 2, none⟩ (.slice sa a.mat.length sc) = w3 at HK3 HB3 HMS ⊢
  have d0 := HK3.out.cell 0
  have d1 := HK3.out.cell 1
  have d2 := HK3.out.cell 2
  simp only [List.getElem?_toArray, List.getElem?_cons_succ, List.getElem?_cons_zero] at d0 d1 d2
  clear c2 z2
  go_wp2_with fail
  go_ret
  exact ⟨.slice sa a.mat.length sc, by rw [HD.out]; rfl, HMS.out, HB3.out⟩
set_option maxRecDepth 100000 in
theorem copied3 (a : Ask) (h1 : ¬ a.kd = 1) (h2 : ¬ a.kd = 2) (av mv : Value) (w : World) :
    Calls Tryz.prog 83 #[a.dyn av mv] w fun e w' => e = .returned (a.dyn av mv) ∧ w' = w := by
  have q1 := is63_yes
  have q2 := is63_nil
  have q3 := is63_no76
  have q4 := is63_no78
  have r1 := is76_yes
  have r2 := is76_nil
  have r3 := is76_no78
  by_cases h3 : a.kd = 3
  · rw [dyn3 h3]
    clear h1 h2 h3
    go_enter Tryz.func83, Tryz.ntmps83
    go_wp2_with fail
    go_ret
    exact ⟨rfl, rfl⟩
  · rw [dyn0 (by omega)]
    clear h1 h2 h3
    go_enter Tryz.func83, Tryz.ntmps83
    go_wp2_with fail
    go_ret
    exact ⟨rfl, rfl⟩
theorem copied_any (a : Ask) (av mv : Value) (w : World) (h1 : TextsAt w av a.all) (h2 : MsAt w mv a.mat) (hn : a.all.length ≤ 1000) (hr : ∀ l ∈ a.all, l.length ≤ 1000) (hm : a.mat.length ≤ 1000) :
    Calls Tryz.prog 83 #[a.dyn av mv] w fun e w' => ∃ av' mv', e = .returned (a.dyn av' mv') ∧ TextsAt w' av' a.all ∧ MsAt w' mv' a.mat ∧ Below w.heap.size w w' := by
  by_cases k1 : a.kd = 1
  · exact (copied1 a k1 av mv w (TextsG.of h1) (fun _ h => h) hn hr).mono fun e w' ⟨v, he, ht, hb⟩ => ⟨v, mv, he, ht.at, MsAt.below12 h2 hb, hb⟩
  by_cases k2 : a.kd = 2
  · exact (copied2 a k2 av mv w h2 hm).mono fun e w' ⟨v, he, ht, hb⟩ => ⟨av, v, he, h1.below hb, ms_of_rk ht hm, hb⟩
  · exact (copied3 a k1 k2 av mv w).mono fun e w' ⟨he, hw⟩ => ⟨av, mv, he, by rw [hw]; exact h1, by rw [hw]; exact h2, by rw [hw]; exact Below.refl _ _⟩
end Go.Proofs.YtoobjjpheegmdaaGreat.E4
namespace Go.Proofs.YtoobjjpheegmdaaGreat.H3
open Go.RowKit Go
theorem step_skip {F : Fence} {n : Nat} {P : Program} {ops : Array Oper} {Q : Exit → Act → World → Prop} {o : Oper} {A : Act} {w : World} {K : Act → World → Prop} (h : ∃ j d b, o.guard = some (j, !b) ∧ (ops[j]?).bind (·.dst) = some d ∧ A.tmps.getD d undef = .bool b) (hk : K (A.put o.dst undef) w) :
    if Region.wanted o (yielded ops A.tmps) = true then o.wpIn F n P A w K Q else K (A.put o.dst undef) w := by
  have hwt : ¬ Region.wanted o (yielded ops A.tmps) = true := by
    obtain ⟨j, d, b, h, hd, hv⟩ := h
    unfold Region.wanted
    rw [h]
    unfold yielded
    simp only [hd, Option.bind_some]
    have e : A.tmps[d]? = some (.bool b) := by
      cases hx : A.tmps[d]? with
      | none => rw [Array.getD_eq_getD_getElem?, hx] at hv; cases hv
      | some y => rw [Array.getD_eq_getD_getElem?, hx] at hv; simpa using hv
    rw [e]
    cases b <;> simp
  rw [if_neg hwt]
  exact hk
end Go.Proofs.YtoobjjpheegmdaaGreat.H3
namespace Go.Proofs.YtoobjjpheegmdaaGreat.E4
open Go.RowKit Go
open Go.Sort (grow)
theorem Keep.below13 {G : Nat → Prop} {B : Nat} {w w' : World} (h : Keep G w w') (hG : ∀ k, G k → B ≤ k) (hB : B ≤ w.heap.size) : Below B w w' :=
  ⟨h.os, h.tape, h.output, h.size, fun k hk => h.block k (Nat.lt_of_lt_of_le hk hB) fun hg => by have := hG k hg; omega⟩
def hasE (es : List Ent) (e : Ent) : Bool := es.any fun x => decide (entC x e = 0)
theorem hasE_iff {es : List Ent} {e : Ent} : hasE es e = true ↔ e ∈ es := by
  unfold hasE
  rw [List.any_eq_true]
  constructor
  · rintro ⟨x, hx, h⟩
    rw [← entC_lc.eq _ _ (of_decide_eq_true h)]
    exact hx
  · exact fun h => ⟨e, h, decide_eq_true (entC_lc.refl e)⟩
def addE (es : List Ent) (e : Ent) : List Ent := if (e.ok && !hasE es e) = true then es ++ [e] else es
theorem addE_yes {es : List Ent} {e : Ent} (h : e.ok = true) (h2 : hasE es e = false) : addE es e = es ++ [e] := by unfold addE; rw [h, h2]; rfl
theorem addE_bad {es : List Ent} {e : Ent} (h : e.ok = false) : addE es e = es := by unfold addE; rw [h]; rfl
theorem addE_old {es : List Ent} {e : Ent} (h : hasE es e = true) : addE es e = es := by unfold addE; rw [h, Bool.not_true, Bool.and_false]; rfl
theorem addE_ways (es : List Ent) (e : Ent) : (addE es e = es ++ [e] ∧ e.ok = true ∧ e ∉ es) ∨ (addE es e = es ∧ (e.ok = false ∨ e ∈ es)) := by
  cases h : e.ok with
  | false => exact .inr ⟨addE_bad h, .inl rfl⟩
  | true =>
    cases h2 : hasE es e with
    | true => exact .inr ⟨addE_old h2, .inr (hasE_iff.1 h2)⟩
    | false => exact .inl ⟨addE_yes h h2, rfl, fun hm => by rw [hasE_iff.2 hm] at h2; cases h2⟩
theorem addE_len (es : List Ent) (e : Ent) : (addE es e).length ≤ es.length + 1 := by
  rcases addE_ways es e with ⟨h, _⟩ | ⟨h, _⟩ <;> rw [h] <;> simp
theorem addE_mem {es : List Ent} {e x : Ent} : x ∈ addE es e ↔ x ∈ es ∨ (x = e ∧ e.ok = true) := by
  rcases addE_ways es e with ⟨h, h1, h2⟩ | ⟨h, h1⟩ <;> rw [h]
  · rw [List.mem_append, List.mem_singleton]
    exact ⟨fun h3 => h3.imp id fun h4 => ⟨h4, h1⟩, fun h3 => h3.imp id fun h4 => h4.1⟩
  · constructor
    · exact .inl
    · rintro (h3 | ⟨rfl, h3⟩)
      · exact h3
      · rcases h1 with h1 | h1
        · rw [h1] at h3; cases h3
        · exact h1
def addAll (es : List Ent) (l : List Ent) : List Ent := l.foldl addE es
theorem addAll_mem {l : List Ent} : ∀ {es : List Ent} {x : Ent}, x ∈ addAll es l ↔ x ∈ es ∨ (x ∈ l ∧ x.ok = true) := by
  induction l with
  | nil => intro es x; simp [addAll]
  | cons e r ih =>
    intro es x
    show x ∈ addAll (addE es e) r ↔ _
    rw [ih, addE_mem, List.mem_cons]
    constructor
    · rintro ((h | ⟨rfl, h⟩) | ⟨h1, h2⟩)
      · exact .inl h
      · exact .inr ⟨.inl rfl, h⟩
      · exact .inr ⟨.inr h1, h2⟩
    · rintro (h | ⟨rfl | h1, h2⟩)
      · exact .inl (.inl h)
      · exact .inl (.inr ⟨rfl, h2⟩)
      · exact .inr ⟨h1, h2⟩
theorem addAll_len {l : List Ent} : ∀ {es : List Ent}, (addAll es l).length ≤ es.length + l.length := by
  induction l with
  | nil => intro es; simp [addAll]
  | cons e r ih =>
    intro es
    have h1 := ih (es := addE es e)
    have h2 := addE_len es e
    show (addAll (addE es e) r).length ≤ _
    simp only [List.length_cons]
    omega
theorem addAll_take (es : List Ent) (l : List Ent) (i : Nat) (h : i < l.length) : addAll es (l.take (i + 1)) = addE (addAll es (l.take i)) l[i] := by
  unfold addAll
  rw [← List.take_append_getElem h, List.foldl_append]
  rfl
theorem infoL : (Tryz.prog.info? 86).map (fun i => (i.zero, i.size, i.bytes)) = some (some (.agg #[.string ⟨#[]⟩, .string ⟨#[]⟩]), 2, 32) := by kernel_rfl
theorem elemL : ∃ i z, Elem Tryz.prog 30 86 i z 2 32 := by
  obtain ⟨i, hi, hz, hs, hb⟩ := info_parts infoL
  exact ⟨i, _, Tryz.underlying30, hi, hz, hs, hb, by kernel_rfl⟩
def flatL : List Lab → List Value
  | [] => []
  | m :: l => .string m.n :: .string m.v :: flatL l
theorem flatL_len : ∀ l : List Lab, (flatL l).length = l.length * 2
  | [] => rfl
  | _ :: l => by simp only [flatL, List.length_cons]; rw [flatL_len l]; omega
theorem flatL_get : ∀ (l : List Lab) (i : Nat) (h : i < l.length), (flatL l)[i * 2]? = some (.string l[i].n) ∧ (flatL l)[i * 2 + 1]? = some (.string l[i].v)
  | x :: l, 0, _ => ⟨rfl, rfl⟩
  | x :: l, i + 1, h => by
    have := flatL_get l i (by simpa using h)
    have e : (i + 1) * 2 = i * 2 + 1 + 1 := by omega
    rw [e]
    exact this
theorem labs_of_rk {G : Nat → Prop} {w : World} {v : Value} {l : List Lab} (h : Rk 2 G w v l.length (flatL l)) (hl : l.length ≤ 1000000) : LabsAt G w v l := by
  obtain ⟨hn, ⟨rfl, h0⟩ | ⟨g, cap, rfl, hg, hlt, _, _, hc, _⟩⟩ := h
  · have : l = [] := List.eq_nil_of_length_eq_zero h0
    subst this
    exact ⟨none, 0, rfl, by simp, .inl rfl⟩
  · refine ⟨_, cap, rfl, by omega, .inr ⟨g, 0, rfl, hg, hlt, fun i hi => ?_⟩⟩
    obtain ⟨e0, e1⟩ := flatL_get l i hi
    have hz := flatL_len l
    refine ⟨?_, ?_⟩
    · rw [Nat.zero_add, hc _ (by omega), e0]
    · rw [Nat.zero_add, hc _ (by omega), e1]
theorem labs_src {G : Nat → Prop} {w : World} {v : Value} {l : List Lab} (h : LabsAt G w v l) : Src Tryz.prog 2 30 v l.length (flatL l) w := by
  obtain ⟨a, cap, rfl, -, hc⟩ := h
  have hone : ∀ u ∈ flatL l, u.oneCell' = true := by
    clear hc
    induction l with
    | nil => intro u hu; cases hu
    | cons m l ih =>
      intro u hu
      simp only [flatL, List.mem_cons] at hu
      rcases hu with rfl | rfl | hu
      · rfl
      · rfl
      · exact ih u hu
  rcases hc with rfl | ⟨b, off, rfl, _, hb, hc⟩
  · cases a with
    | none => exact Src.ofNil _ Tryz.underlying30 cap
    | some p => exact Src.ofSlice _ Tryz.underlying30 p 0 cap [] (by simp) (fun j u hu => by simp at hu) (fun u hu => by simp at hu)
  · refine Src.ofSlice _ Tryz.underlying30 ⟨b, off, none⟩ l.length cap (flatL l) (flatL_len l) (fun j u hu => ?_) hone
    have hj : j < l.length * 2 := by have := (List.getElem?_eq_some_iff.1 hu).1; rwa [flatL_len] at this
    have hi : j / 2 < l.length := by omega
    obtain ⟨g0, g1⟩ := flatL_get l (j / 2) hi
    obtain ⟨h0, h1⟩ := hc (j / 2) hi
    rw [add_lit]
    have hm : j = j / 2 * 2 ∨ j = j / 2 * 2 + 1 := by omega
    rcases hm with e | e
    · rw [e] at hu ⊢; rw [g0] at hu; rw [← hu]; exact h0
    · rw [e] at hu ⊢; rw [g1] at hu; rw [← hu]; exact h1
set_option maxHeartbeats 1000000 in
set_option maxRecDepth 100000 in
theorem cloneL_any {G : Nat → Prop} {w : World} {v : Value} {l : List Lab} (h : LabsAt G w v l) (hn : l.length ≤ 1000000) :
    Calls Tryz.prog 36 #[v] w fun e w' => ∃ v', e = .returned v' ∧ LabsAt (fun k => w.heap.size ≤ k) w' v' l ∧ Lay w w' := by
  obtain ⟨i0, z0, E0⟩ := elemL
  have qs : ∀ (w : World) (a : Option Addr) (n c n' c' : Nat), (binOp .eql 30 (.slice a n c) (.slice none n' c')).run Tryz.prog w = .ok (.bool a.isNone) w := fun w a n c n' c' => Lib.run_eql_slice_nil w _ _ a n c n' c' Tryz.underlying30
  have HSS := Lib.hid (fun w1 (hl : Lay w w1) => labs_src (h.lay hl))
  obtain ⟨a, cap, rfl, hn63, hc⟩ := id h
  clear h
  cases a with
  | none =>
    have h0 : l = [] := by
      rcases hc with h0 | ⟨b, off, h0, _⟩
      · exact h0
      · cases h0
    have HZ := Lib.hid h0
    clear hc h0 HSS
    go_enter Tryz.func36, Tryz.ntmps36
    go_wp2
    go_ret
    refine ⟨.slice none 0 0, rfl, ?_, Keep.refl _ _⟩
    rw [HZ.out]; exact LabsAt.nil _ _
  | some p =>
    clear hc
    have HS2 := Lib.hid (HSS.out (w.alloc (.cells #[] 86)) ((Keep.refl _ _).alloc _))
    clear HSS
    go_enter Tryz.func36, Tryz.ntmps36
    go_wp2_with (at_builtin; refine wpList_append_rk E0 _ rfl _ _ 30 rfl (G := fun k => w.heap.size ≤ k) rfl ((rk_new 2 w 0 [] 86 rfl (by omega)).mono (fun k hk _ => Nat.le_of_eq hk.symm)) ?c1 _ l.length (flatL l) rfl HS2.out ?c2 ?c3 ?_)
    case c1 => intro k hk; simp at hk; omega
    case c2 => omega
    case c3 => omega
    intro v' w1 hrk hk
    have HK := Lib.hid hrk
    have hk2 : Keep (fun k => w.heap.size ≤ k) (w.alloc (.cells #[] 86)) w1 := hk.into (fun b _ hb => by
      obtain ⟨n, c, e⟩ := hb
      simp only [Value.slice.injEq, Option.some.injEq, Addr.mk.injEq, and_true] at e
      omega)
    have hlay : Lay w w1 := Keep.into (Keep.trans ((Keep.refl (fun k => w.heap.size ≤ k) w).alloc _) hk2) (fun k hlt hk => by omega)
    have HLY := Lib.hid hlay
    clear hrk hk hk2 hlay
    go_wp2
    go_ret
    refine ⟨v', rfl, labs_of_rk ?_ hn, HLY.out⟩
    have := HK.out.mono (G' := fun k => w.heap.size ≤ k) (fun k hk _ => hk.1)
    simpa using this
theorem operIn_append13 {F : Fence} {nn : Nat} {P : Program} {o : Oper} {a : Act} {w w' : World} {K : Act → World → Prop} {Q : Exit → Act → World → Prop} {sv xv v' : Value} (s x : Operand) (t : TypeId)
    (ho : o.op = .call { callee := .builtin .append, args := #[s, x], argTypes := #[t, t] }) (hs : a.eval s = sv) (hx : a.eval x = xv) (hrun : (Builtin.append_ #[t, t] o.type #[sv, xv]).run P w = .ok v' w') (hK : K (a.put o.dst v') w') : o.wpIn F nn P a w K Q := by
  unfold Oper.wpIn
  refine ⟨?_, ?_⟩
  · simp [Oper.about, ho, resolve, Target.leads, Sem.run_pure]
  · rw [Oper.semAt_plain F _ _ (by rw [ho]; intro c hc'; cases hc')]
    simp [execOp, ho, resolve, invoke, builtin, hs, hx, hrun, Result.andThen]
    exact hK
theorem operIn_update13 {F : Fence} {nn : Nat} {P : Program} {o : Oper} {a : Act} {w w' : World} {K : Act → World → Prop} {Q : Exit → Act → World → Prop} {mv xv vv : Value} (m x v : Operand) (t : TypeId)
    (ho : o.op = Op.mapUpdate t m x v) (hm : a.eval m = mv) (hx : a.eval x = xv) (hv : a.eval v = vv) (hrun : (Instr.mapUpdate t mv xv vv).run P w = .ok () w') (hK : K (a.put o.dst undef) w') : o.wpIn F nn P a w K Q := by
  unfold Oper.wpIn
  refine ⟨?_, ?_⟩
  · simp [Oper.about, ho]
  · rw [Oper.semAt_plain F _ _ (by rw [ho]; intro c hc'; cases hc')]
    simp [execOp, ho, hm, hx, hv, hrun, Result.andThen]
    exact hK
theorem gvq_keep {cs : List (Option Value)} {S : List Nat} {sp : Nat → Value → World → Prop} {i j : Nat} {ys : Nat → Value} {v : Value} {w w' : World} (hS : j ∉ S) (hij : i ≠ j) (h : GV cs S sp j ys w) : GV cs S sp j (H3.upd ys i v) w' := by
  unfold GV at h ⊢
  rw [if_neg hS] at h ⊢
  intro u hu
  rw [H3.upd_other ys v (Ne.symm hij)]
  exact h u hu
theorem foldl_bytes (ns : List UInt8) : (ns.map fun b => (b.toNat : Int)).foldl (fun (r : ByteArray) n => r.push (UInt8.ofNat n.toNat)) ByteArray.empty = ⟨ns.toArray⟩ := by
  rw [foldl_push_bytes]
  simp [Function.comp_def]
theorem bs_string {B : Nat} {w : World} {v : Value} {l : List UInt8} (h : Bs B w v l) : (convert 100 9 v).run Tryz.prog w = .ok (.string ⟨l.toArray⟩) w := by
  rcases h with ⟨rfl, rfl⟩ | ⟨g, cap, rfl, hBg, hg, hlc, hm, hc, hf⟩
  · rw [run_convert_bytes_string (P := Tryz.prog) w 100 9 5 none 0 0 Tryz.underlying100 Tryz.underlying5 Tryz.underlying9]
    rfl
  · rw [run_convert_bytes_string (P := Tryz.prog) w 100 9 5 _ _ _ Tryz.underlying100 Tryz.underlying5 Tryz.underlying9, run_bytesToString (P := Tryz.prog) w ⟨g, 0, none⟩ l.length cap (l.map fun b => (b.toNat : Int)), foldl_bytes]
    have e : ((l.map fun b => (b.toNat : Int)).map (Value.int .u8)) = cellsOf l := by simp [cellsOf]
    rw [e]
    have := run_firstCells_some (P := Tryz.prog) w 1 l.length ⟨g, 0, none⟩ l.length cap (cellsOf l) (by rw [cellsOf_length]; omega) (fun j u hu => by
      have hj : j < l.length := by
        have := (List.getElem?_eq_some_iff.1 hu).1
        rwa [cellsOf_length] at this
      have e : (⟨g, 0, none⟩ : Addr).add j = ⟨g, j, none⟩ := by unfold Addr.add; split <;> simp_all
      rw [e, hc j hj, hu])
    simpa [Builtin.firstCells] using this
theorem By.bs {G : Nat → Prop} {w : World} {v : Value} {l : List UInt8} (h : By G w v l) : Bs 0 w v l := by
  obtain ⟨_, ⟨h1, h2⟩ | ⟨g, cap, h1, _, h2, h3, h4, h5, h6⟩⟩ := h
  · exact .inl ⟨h1, List.eq_nil_of_length_eq_zero h2⟩
  · exact .inr ⟨g, cap, h1, Nat.zero_le _, h2, h3, h4, fun j hj => h5 j (by rw [cellsOf_length]; exact hj), fun j hj => h6 j (by omega)⟩
theorem Sorts.len13 {desc : Bool} {es out : List Ent} (h : Sorts (ordC desc) es out) : out.length ≤ es.length := by
  have hnd : out.Nodup := h.1.imp fun {a b} hab e => by
    subst e
    rw [(ordC_lc desc).refl] at hab
    cases hab
  have key : ∀ {l m : List Ent}, l.Nodup → (∀ x ∈ l, x ∈ m) → l.length ≤ m.length := by
    intro l
    induction l with
    | nil => intro m _ _; exact Nat.zero_le _
    | cons x r ih =>
      intro m h hs
      rw [List.nodup_cons] at h
      obtain ⟨s, t, rfl⟩ := List.append_of_mem (hs x (by simp))
      have h1 := ih (m := s ++ t) h.2 fun y hy => by
        have h2 := hs y (List.mem_cons_of_mem _ hy)
        have h3 : y ≠ x := fun e => h.1 (e ▸ hy)
        simp only [List.mem_append, List.mem_cons] at h2 ⊢
        rcases h2 with h2 | h2 | h2
        · exact .inl h2
        · exact absurd h2 h3
        · exact .inr h2
      simp only [List.length_append, List.length_cons] at h1 ⊢
      omega
  exact key hnd fun x hx => (h.2 x).1 hx
theorem great_no {a : Ask} (h : a.great = false) : a.all.length ≤ 1000 ∧ (∀ l ∈ a.all, l.length ≤ 1000) ∧ a.mat.length ≤ 1000 ∧ ∀ l ∈ a.all, ∀ s ∈ l, s.size ≤ 100000 := by
  unfold Ask.great at h
  simp only [Bool.or_eq_false_iff, decide_eq_false_iff_not] at h
  obtain ⟨⟨⟨h1, h2⟩, h3⟩, _⟩ := h
  have h4 : ∀ l ∈ a.all, bigL l = false := fun l hl => by
    cases e : bigL l with
    | false => rfl
    | true => rw [List.any_eq_true.2 ⟨l, hl, e⟩] at h3; cases h3
  refine ⟨by omega, fun l hl => ?_, by omega, fun l hl s hs => ?_⟩
  · have := h4 l hl
    unfold bigL at this
    simp only [Bool.or_eq_false_iff, decide_eq_false_iff_not] at this
    omega
  · have := h4 l hl
    unfold bigL bigW at this
    simp only [Bool.or_eq_false_iff, decide_eq_false_iff_not] at this
    have h5 := this.2
    by_cases e : 2000 < s.size
    · rw [List.any_eq_true.2 ⟨s, hs, decide_eq_true e⟩] at h5; cases h5
    · omega
theorem Rk.setD {k : Nat} {G : Nat → Prop} {w : World} {g n cap : Nat} {xs : List Value} (h : Rk k G w (.slice (some ⟨g, 0, none⟩) n cap) n xs) (j0 : Nat) (hk : j0 < n * k) (u : Value) : Rk k G (w.setCell ⟨g, j0, none⟩ u) (.slice (some ⟨g, 0, none⟩) n cap) n (xs.set j0 u) := by
  obtain ⟨h0, ⟨h, _⟩ | ⟨g', cap', he, hG, hlt, hn, hm, hc, hf⟩⟩ := h
  · cases h
  · obtain ⟨rfl, rfl⟩ : g' = g ∧ cap' = cap := by simpa [eq_comm] using he
    have hsome := hf j0 (Nat.lt_of_lt_of_le hk (Nat.mul_le_mul_right k hn))
    refine ⟨by rw [List.length_set]; exact h0, .inr ⟨g', cap', rfl, hG, by simpa [World.setCell] using hlt, hn, hm, fun j hj => ?_, fun j hj => ?_⟩⟩
    · rw [List.length_set] at hj
      by_cases e : j0 = j
      · subst e
        rw [List.getElem?_set_self hj]
        have hs := hsome.1
        go_simp
      · rw [List.getElem?_set_ne e, ← hc j hj]
        go_simp
    · have := hf j hj
      refine ⟨?_, (World.frozen?_setCell _ _ _ _).trans this.2⟩
      by_cases e : j0 = j
      · subst e
        have hs := this.1
        go_simp
      · have hs := this.1
        go_simp
theorem flatR_set : ∀ (S : List (Value × Ent)) (i : Nat) (_ : i < S.length) (x : Value × Ent), flatR (S.set i x) = (((flatR S).set (i * 3) (.int .i64 x.2.tm)).set (i * 3 + 1) x.1).set (i * 3 + 2) (.string x.2.line)
  | y :: S, 0, _, x => rfl
  | y :: S, i + 1, h, x => by
    have e : (i + 1) * 3 = i * 3 + 1 + 1 + 1 := by omega
    rw [e]
    show rawC y ++ flatR (S.set i x) = _
    rw [flatR_set S i (by simpa using h) x]
    rfl
theorem sub_len {l m : List Ent} (h : l.Nodup) (hs : ∀ x ∈ l, x ∈ m) : l.length ≤ m.length := by
  induction l generalizing m with
  | nil => exact Nat.zero_le _
  | cons x r ih =>
    rw [List.nodup_cons] at h
    obtain ⟨s, t, rfl⟩ := List.append_of_mem (hs x (by simp))
    have h1 := ih (m := s ++ t) h.2 fun y hy => by
      have h2 := hs y (List.mem_cons_of_mem _ hy)
      have h3 : y ≠ x := fun e => h.1 (e ▸ hy)
      simp only [List.mem_append, List.mem_cons] at h2 ⊢
      rcases h2 with h2 | h2 | h2
      · exact .inl h2
      · exact absurd h2 h3
      · exact .inr h2
    simp only [List.length_append, List.length_cons] at h1 ⊢
    omega
noncomputable def chosen (P : List Ent → Prop) : List Ent := @dite _ (∃ s, P s) (Classical.propDecidable _) (fun h => Classical.choose h) (fun _ => [])
theorem chosen_ok {P : List Ent → Prop} (h : ∃ s, P s) : P (chosen P) := by
  unfold chosen
  rw [dif_pos h]
  exact Classical.choose_spec h
noncomputable def srtOf (desc : Bool) (l : List Ent) : List Ent := chosen fun s => Sorts (ordC desc) l s
theorem srtOf_eq {desc : Bool} {l s : List Ent} (h : Sorts (ordC desc) l s) : srtOf desc l = s :=
  Sorts.unique (ordC_lc desc) (chosen_ok (P := fun s => Sorts (ordC desc) l s) ⟨s, h⟩) h fun _ => Iff.rfl
theorem src_entN {e : Ent} {w : World} {al : Option Addr} {cl : Nat} : Src Tryz.prog 3 43 (.slice (some ⟨w.heap.size, 0, none⟩) 1 1) 1 (flatR [((.slice al e.labs.length cl : Value), e)]) (w.alloc (.cells #[.int .i64 e.tm, .slice al e.labs.length cl, .string e.line] 32)) :=
  Rk.src Tryz.underlying43 (rk_new 3 w 1 (flatR [((.slice al e.labs.length cl : Value), e)]) 32 rfl (by omega)) (fun u hu => by
    simp only [flatR, rawC, List.append_nil, List.mem_cons, List.not_mem_nil, or_false] at hu
    rcases hu with rfl | rfl | rfl <;> rfl)
end Go.Proofs.YtoobjjpheegmdaaGreat.E4
