/-
  Lo16.
-/
import Derived.Test.YtoobjjpheegmdaaGreatJ41
namespace Go.Proofs.YtoobjjpheegmdaaGreat.E4
open Go.RowKit Go
structure LJ (C n i : Nat) (R : List (Value × Ent)) (W : World) : Prop where
  len : R.length = i
  le : i ≤ n
  lt : C < W.heap.size
  ra : RawAt W C 0 R
  ex : ∀ j, j < n * 3 → (W.cell? ⟨C, j, none⟩).isSome = true ∧ W.frozen? ⟨C, j, none⟩ = false
  rl : RawL (fun b => C < b) W R
theorem LJ.keep {C n i : Nat} {R : List (Value × Ent)} {W W' : World} (h : LJ C n i R W) (hb : Below W.heap.size W W') : LJ C n i R W' :=
  ⟨h.len, h.le, Nat.lt_of_lt_of_le h.lt hb.size, fun j hj => by
    obtain ⟨a, b, c⟩ := h.ra j hj
    have hc : ∀ o, W'.cell? ⟨C, o, none⟩ = W.cell? ⟨C, o, none⟩ := fun o => World.cell?_of_block (a := ⟨C, o, none⟩) (hb.block C h.lt)
    exact ⟨(hc _).trans a, (hc _).trans b, (hc _).trans c⟩, fun j hj => by
    rw [World.cell?_of_block (a := ⟨C, j, none⟩) (hb.block C h.lt), World.frozen?_of_block (a := ⟨C, j, none⟩) (hb.block C h.lt)]
    exact h.ex j hj, h.rl.below1 hb⟩
theorem LJ.put {C n i : Nat} {R : List (Value × Ent)} {W : World} (h : LJ C n i R W) (hi : i < n) {lv : Value} {e : Ent} (hl : LabsAt (fun b => C < b) W lv e.labs) : LJ C n (i + 1) (R ++ [(lv, e)]) (W.setCells C (i * 3) (rawC (lv, e))) ∧ Keep (fun b => b = C) W (W.setCells C (i * 3) (rawC (lv, e))) := by
  have hk : Keep (fun b => b = C) W (W.setCells C (i * 3) (rawC (lv, e))) := keep_setCells _ _ _ _ _ rfl
  have hcl := h.len
  have out : ∀ o, (o < i * 3 ∨ i * 3 + 3 ≤ o) → (W.setCells C (i * 3) (rawC (lv, e))).cell? ⟨C, o, none⟩ = W.cell? ⟨C, o, none⟩ := fun o ho => World.cell?_setCells_out C _ _ _ _ (fun _ _ => by show o < i * 3 ∨ i * 3 + (rawC (lv, e)).length ≤ o; simpa [rawC] using ho)
  have inn : ∀ j, j < 3 → (W.setCells C (i * 3) (rawC (lv, e))).cell? ⟨C, i * 3 + j, none⟩ = (rawC (lv, e))[j]? := fun j hj => by
    have hj' : j < (rawC (lv, e)).length := by simpa [rawC] using hj
    rw [World.cell?_setCells_in C (rawC (lv, e)) (i * 3) W (fun j hj => (h.ex _ (by simp [rawC] at hj; omega)).1) j hj', List.getElem?_eq_getElem hj']
  refine ⟨⟨by simp [hcl], hi, Nat.lt_of_lt_of_le h.lt hk.size, fun j hj => ?_, fun j hj => ⟨?_, ?_⟩, fun x hx => ?_⟩, hk⟩
  · rw [List.length_append, List.length_singleton, hcl] at hj
    by_cases hji : j < i
    · rw [List.getElem_append_left (by omega)]
      obtain ⟨a, b, c⟩ := h.ra j (by omega)
      refine ⟨?_, ?_, ?_⟩
      · rw [Nat.zero_add, out _ (by omega)]; simpa using a
      · rw [Nat.zero_add, out _ (by omega)]; simpa using b
      · rw [Nat.zero_add, out _ (by omega)]; simpa using c
    · obtain rfl : j = i := by omega
      rw [List.getElem_append_right (by omega)]
      simp only [hcl, Nat.sub_self, List.getElem_singleton, Nat.zero_add]
      exact ⟨by simpa [rawC] using inn 0 (by omega), by simpa [rawC] using inn 1 (by omega), by simpa [rawC] using inn 2 (by omega)⟩
  · by_cases hin : i * 3 ≤ j ∧ j < i * 3 + 3
    · have := inn (j - i * 3) (by omega)
      rw [show i * 3 + (j - i * 3) = j by omega] at this
      rw [this, List.getElem?_eq_getElem (by simp [rawC]; omega)]
      rfl
    · rw [out j (by omega)]
      exact (h.ex j hj).1
  · rw [World.frozen?_setCells]
    exact (h.ex j hj).2
  · rcases List.mem_append.1 hx with hx | hx
    · exact (h.rl x hx).keep hk fun b hb _ hbc => by
        have h1 : C < b := hb
        have h2 : b = C := hbc
        omega
    · rw [List.mem_singleton.1 hx]
      exact hl.keep hk fun b hb _ hbc => by
        have h1 : C < b := hb
        have h2 : b = C := hbc
        omega
set_option maxHeartbeats 4000000 in
set_option maxRecDepth 100000 in
theorem gLog_any {ρ : Nat → Nat} {w : World} {g : Nat} {log : List Ent} {P : List Rep} (h : GAt ρ w g log P) :
    Calls Tryz.prog 13 #[.pointer (some ⟨g, 0, none⟩)] w fun x w' => ∃ v, x = .returned v ∧ EntsAt (fun b => w.heap.size ≤ b) (fun b => w.heap.size ≤ b) w' v log ∧ Below w.heap.size w w' := by
  have hmx : Tryz.prog.follows .mixedOrders = true := by kernel_rfl
  obtain ⟨lv, rv, R, hG⟩ := id h
  obtain ⟨al, cl, rfl⟩ := hG.l.shape
  have hRL : R.length = log.length := by rw [← hG.e, List.length_map]
  have hR100 : R.length ≤ 100 := by rw [hRL]; exact hG.hl
  obtain ⟨iI, hI1, hI2, hI3, hI4⟩ := info_parts info24
  obtain ⟨W1, hW1⟩ : ∃ W1, W1 = w.alloc (.cells (madeCells #[.int .i64 0, .slice none 0 0, .string ⟨#[]⟩] (R.length * 3)) 32) := ⟨_, rfl⟩
  have hmk : (Instr.makeSlice 43 (.int .i64 (R.length : Int)) (.int .i64 (R.length : Int))).run Tryz.prog w = .ok (.slice (some ⟨w.heap.size, 0, none⟩) R.length R.length) W1 := by
    have := run_makeSlice (P := Tryz.prog) w 43 32 iI (.agg #[.int .i64 0, .slice none 0 0, .string ⟨#[]⟩]) Tryz.underlying43 hI1 hI2 .i64 .i64 (R.length : Int) (R.length : Int) (by omega) (by omega) (by rw [hI3]; omega) (by rw [hI4]; omega) (by omega)
    rw [this, hI3, hW1]
    simp [Value.cells]
  have hb1 : Below w.heap.size w W1 := by rw [hW1]; exact (Below.refl _ w).alloc (Nat.le_refl _) _
  have hj1 : LJ w.heap.size R.length 0 [] W1 := ⟨rfl, Nat.zero_le _, by rw [hW1]; simp, fun j hj => by simp at hj, fun j hj => by
    rw [hW1]
    refine ⟨?_, World.frozen?_alloc_new w _ _ j⟩
    have e1 : (w.alloc (.cells (madeCells #[.int .i64 0, .slice none 0 0, .string ⟨#[]⟩] (R.length * 3)) 32)).cell? ⟨w.heap.size, j, none⟩ = _ := World.cell?_alloc_new w _ _ j
    rw [e1, Array.getElem?_eq_getElem (by rw [size_madeCells]; exact hj)]
    rfl, fun x hx => by simp at hx⟩
  have hg1 := hG.below hb1
  have c0 := hG.c.cell 0
  have d0 := hg1.c.cell 0
  simp only [List.getElem?_toArray, List.getElem?_cons_zero] at c0 d0
  have HG := Lib.hid hG
  have HB1 := Lib.hid hb1
  have HJ1 := Lib.hid hj1
  have HRL := Lib.hid hRL
  clear h hG hRL hI1 hI2 hI3 hI4 hW1 hb1 hj1 hg1
  go_enter Tryz.func13, Tryz.ntmps13
  go_wp2_with fail
  clear c0 d0 hmk
  go_loopw [19] (fun vi wr => ∃ (i : Nat) (S : List (Value × Ent)), vi = .int .i64 i ∧ i ≤ R.length ∧ LJ w.heap.size R.length i S wr ∧ S.map Prod.snd = log.take i ∧ Below w.heap.size w wr) (fun vi _ => R.length - (intOf vi).toNat)
  case atStart => exact ⟨0, [], rfl, Nat.zero_le _, HJ1.out, rfl, HB1.out⟩
  case round =>
    obtain ⟨i, S, rfl, hi, hj, hS, hb⟩ := hrel
    have HJ := Lib.hid hj
    have HS := Lib.hid hS
    have HB := Lib.hid hb
    clear hj hS
    by_cases hlt : i < R.length
    · have hgr := HG.out.below hb
      obtain ⟨_, ⟨_, h0⟩ | ⟨lb, lc, hv, -, hlb, -, -, hraw, -⟩⟩ := hgr.l.rawAt
      · rw [h0] at hlt; exact absurd hlt (Nat.not_lt_zero _)
      simp only [Value.slice.injEq, true_and] at hv
      obtain ⟨rfl, rfl⟩ := hv
      obtain ⟨y0, y1, y2⟩ := hraw i hlt
      simp only [Nat.zero_add] at y0 y1 y2
      have hlab := hgr.rl R[i] (List.getElem_mem hlt)
      obtain ⟨hll, hle⟩ : ∃ hh : i < log.length, log[i] = R[i].2 := by
        have h1 := HRL.out
        refine ⟨by omega, ?_⟩
        simp only [← hgr.e, List.getElem_map]
      have hokn : R[i].2.ok = true := by rw [← hle]; exact hgr.ok _ (List.getElem_mem hll)
      obtain ⟨rl, rc, hrl, _⟩ := id hlab
      rw [hrl] at y1 hlab
      have HTK : Hid (log.take (i + 1) = log.take i ++ [R[i].2]) := Lib.hid (by rw [← hle]; exact (List.take_append_getElem hll).symm)
      generalize R[i].2 = en at y0 y1 y2 hlab hokn HTK hrl hle
      obtain ⟨w5, hw5⟩ : ∃ w5, w5 = wr.alloc (.cells #[.int .i64 en.tm, .slice rl en.labs.length rc, .string en.line] 32) := ⟨_, rfl⟩
      have hl5 : Lay wr w5 := by rw [hw5]; exact (Keep.refl _ wr).alloc _
      have hk5 : Bl w5 wr.heap.size 32 #[.int .i64 en.tm, .slice rl en.labs.length rc, .string en.line] := by rw [hw5]; exact Bl.new wr 32 _
      have HOW := Lib.hid (ownG_any (hlab.lay hl5) (by have := ok_labs hokn; omega))
      simp only [Ent.val] at HOW
      have HL5 := Lib.hid hl5
      have HW5 := Lib.hid hw5.symm
      have u0 := hk5.cell 0
      have u1 := hk5.cell 1
      have u2 := hk5.cell 2
      simp only [List.getElem?_toArray, List.getElem?_cons_succ, List.getElem?_cons_zero] at u0 u1 u2
      clear hgr hraw hlab hokn hw5 hl5 hk5 hll hle hb
      go_upto_region 7 with fail
      rw [HW5.out]
      clear y0 y1 y2
      go_wp2_with fail
      refine HOW.out.mono ?_
      rintro x w6 ⟨lv', rfl, hlab', hl6⟩
      obtain ⟨ra, rc2, rfl, _⟩ := id hlab'
      have hj6 := HJ.out.keep (lay_below (Keep.trans HL5.out hl6))
      obtain ⟨hj7, hk7⟩ := hj6.put hlt (hlab'.mono fun b hb2 _ => by have := HJ.out.lt; have := HL5.out.size; omega)
      obtain ⟨z0, f0⟩ := hj6.ex (i * 3) (by omega)
      obtain ⟨z1, f1⟩ := hj6.ex (i * 3 + 1) (by omega)
      obtain ⟨z2, f2⟩ := hj6.ex (i * 3 + 2) (by omega)
      obtain ⟨v0, z0⟩ := Option.isSome_iff_exists.1 z0
      obtain ⟨v1, z1⟩ := Option.isSome_iff_exists.1 z1
      obtain ⟨v2, z2⟩ := Option.isSome_iff_exists.1 z2
      obtain ⟨w7, hw7⟩ : ∃ w7, w7 = ((w6.setCell ⟨w.heap.size, i * 3, none⟩ (.int .i64 en.tm)).setCell ⟨w.heap.size, i * 3 + 1, none⟩ (.slice ra en.labs.length rc2)).setCell ⟨w.heap.size, i * 3 + 2, none⟩ (.string en.line) := ⟨_, rfl⟩
      have hj8 : LJ w.heap.size R.length (i + 1) (S ++ [(.slice ra en.labs.length rc2, en)]) w7 := by rw [hw7]; exact hj7
      have hk8 : Keep (fun b => b = w.heap.size) w6 w7 := by rw [hw7]; exact hk7
      have HJ8 := Lib.hid hj8
      have HB8 : Hid (Below w.heap.size w w7) := Lib.hid ((HB.out.trans ((lay_below (Keep.trans HL5.out hl6)).mono HB.out.size)).trans ⟨hk8.os, hk8.tape, hk8.output, hk8.size, fun b hb2 => hk8.block b (Nat.lt_of_lt_of_le hb2 (Nat.le_trans HB.out.size (Nat.le_trans HL5.out.size hl6.size))) fun h => by have h2 : b = w.heap.size := h; omega⟩)
      have HW7 := Lib.hid hw7.symm
      clear hlab' u0 u1 u2 hj6 hj7 hk7 hj8 hk8 hw7 hl6
      go_upto_region 8 with fail
      rw [HW7.out]
      clear z0 z1 z2 f0 f1 f2
      go_wp2
      go_roundw
      case rel => exact ⟨i + 1, S ++ [(.slice ra en.labs.length rc2, en)], by go_num, by omega, HJ8.out, by rw [List.map_append, HS.out, HTK.out]; rfl, HB8.out⟩
      case measure => simp [intOf]; omega
    · obtain rfl : i = R.length := by omega
      have hent : EntsAt (fun b => w.heap.size ≤ b) (fun b => w.heap.size ≤ b) wr (.slice (some ⟨w.heap.size, 0, none⟩) R.length R.length) log := by
        have h1 := HJ.out.ra.ents (cap := R.length) HJ.out.rl (G := fun b => w.heap.size ≤ b) (Nat.le_refl _) HJ.out.lt (by have := HJ.out.len; omega)
        rw [HJ.out.len, HS.out, HRL.out, List.take_length] at h1
        rw [HRL.out]
        exact h1.mono (fun _ h _ => h) fun b hb2 _ => Nat.le_of_lt hb2
      have HENT := Lib.hid hent
      clear hent hb
      go_wp2_with fail
      refine bodyPost_ret (v := .slice (some ⟨w.heap.size, 0, none⟩) R.length R.length) (by simp [results, Tryz.results13, go_sem]) rfl ⟨_, rfl, HENT.out, HB.out⟩
end Go.Proofs.YtoobjjpheegmdaaGreat.E4
