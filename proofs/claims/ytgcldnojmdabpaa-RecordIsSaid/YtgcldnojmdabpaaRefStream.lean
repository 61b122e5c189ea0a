/-
  THE DOCUMENT'S OWN Stream AND Bytes.
-/
import Derived.Test.YtgcldnojmdabpaaRefLay
import Derived.Test.YtgcldnojmdabpaaPutE
import Derived.Shelf.SlSortCmp.QuietGrown
import Derived.Test.YtgcldnojmdabpaaCompact
import Derived.Laws.Concat
namespace Go.Proofs.Ytgcldnojmdabpaa
open Go.RowKit Go

theorem grown_layR {f : Nat} {args : Array Value} {v : Value} (hc : ∀ W, Calls Try.prog f args W fun e w' => e = .returned v ∧ Lay W w') (w : World) (n : Nat) (os : Array Obj) :
    Calls Try.prog f args (Sort.grow (w.drewN n) os) fun e w'' => e = .returned v ∧ ∃ p : GrownBy, w'' = Sort.grow (w.drewN p.n) p.os :=
  grown_of_lay (hc _)

theorem mk_size (l : List UInt8) : (⟨l.toArray⟩ : ByteArray).size = l.length := by rw [Lib.size_eq]

/-- Strings add up as their bytes do. -/
theorem add_run (a b : List UInt8) (h : a.length + b.length ≤ 9223372036854775807) (w : World) : (Op.stringOp .add ⟨a.toArray⟩ ⟨b.toArray⟩).run Try.prog w = .ok (.string ⟨(a ++ b).toArray⟩) w := by
  rw [run_string_add_sum w _ _ (by rw [mk_size, mk_size]; exact h), ByteArray.mk_append_mk]

set_option maxHeartbeats 8000000 in
set_option maxRecDepth 100000 in
theorem refStream_any {G : Nat → Prop} {w : World} {lv : Value} {e : Ent} (h : LabsAt G w lv e.labs) (hm : LabsMod e.labs) :
    Calls Try.prog 20 #[e.val lv] w fun x w' => x = .returned (.string ⟨(labsB e.labs).toArray⟩) ∧ Lay w w' := by
  obtain ⟨a, ca, rfl, hl63, ha⟩ := h
  obtain ⟨tm, labs, line⟩ := e
  simp only [] at hm ha hl63 ⊢
  have HL0 : Hid (Lay w (w.alloc (.cells #[.int .i64 tm, .slice a labs.length ca, .string line] 24))) := Lib.hid ((Keep.refl _ _).alloc _)
  have hm1 := hm.1
  have HM := Lib.hid hm.2
  have hU := fun w => refL_uint labs.length (by omega) w
  obtain ⟨S0, hS0⟩ : ∃ p : ByteArray, p = ⟨(Lib.uvarint labs.length).toArray⟩ := ⟨_, rfl⟩
  rw [← hS0] at hU
  have HU := Lib.hid hU
  have HS0 := Lib.hid hS0
  have HA := Lib.hid ha
  have hw1 : IntKind.u64.wrap (labs.length : Int) = (labs.length : Int) := by rw [IntKind.wrap_u64]; omega
  have hmx : Try.prog.follows .mixedOrders = true := by kernel_rfl
  unfold Ent.val
  clear ha hU hS0 hm
  simp only [] at *
  go_enter Try.func20, Try.ntmps20
  go_wp2_with fail
  refine (HU.out _).mono ?_
  rintro e w1 ⟨rfl, hl1⟩
  have HL1 := Lib.hid (Keep.trans HL0.out hl1)
  have hb1 : w1.cell? ⟨w.heap.size, 1, none⟩ = some (.slice a labs.length ca) := (Lay.cell hl1 (by simp)).trans (by go_simp)
  clear hl1
  go_wp2_with fail
  go_loopw [14, 3] (fun vi vs wr => ∃ (k : Nat) (S : ByteArray), vi = .int .i64 k ∧ vs = .string S ∧ k ≤ labs.length ∧ Lay w wr ∧ S = ⟨(Lib.uvarint labs.length ++ labsF (labs.take k)).toArray⟩) (fun vi _ _ => labs.length - (intOf vi).toNat)
  case atStart => exact ⟨0, S0, rfl, rfl, Nat.zero_le _, HL1.out, by rw [HS0.out]; simp [labsF]⟩
  case round =>
    obtain ⟨k, S, rfl, rfl, hk, hl, hS⟩ := hrel
    have HL := Lib.hid hl
    have HS := Lib.hid hS
    by_cases hlt : k < labs.length
    · rcases HA.out with h0 | ⟨bx, ox, rfl, hgx, hbx, hcx⟩
      · exact absurd hlt (by rw [h0]; simp)
      obtain ⟨x0, x1⟩ := hcx k hlt
      have g0 := (hl.cell hbx).trans x0
      have g1 := (hl.cell hbx).trans x1
      have hmk := HM.out labs[k] (List.getElem_mem hlt)
      have hdx := Lib.hid (take_snocL hlt)
      have hSl : S.size ≤ 200020000 + 10 := by
        rw [hS, mk_size, List.length_append]
        have h1 := labsF_len (labs.take k) (fun x hx => HM.out x (List.mem_of_mem_take hx))
        have h2 := Lib.uvarint_length64 (x := labs.length) (by omega)
        rw [List.length_take] at h1
        omega
      generalize labs[k] = x at g0 g1 hdx x0 x1 hmk
      have ht0 := textB_len x.n hmk.1
      have ht1 := textB_len x.v hmk.2
      have C0 := fun W => refL_text x.n (by omega) W
      have C1 := fun W => refL_text x.v (by omega) W
      obtain ⟨T0, hT0⟩ : ∃ p : ByteArray, p = ⟨(textB x.n.data.toList).toArray⟩ := ⟨_, rfl⟩
      obtain ⟨T1, hT1⟩ : ∃ p : ByteArray, p = ⟨(textB x.v.data.toList).toArray⟩ := ⟨_, rfl⟩
      have hs0 : T0.size ≤ 100010 := by rw [hT0, mk_size]; omega
      have hs1 : T1.size ≤ 100010 := by rw [hT1, mk_size]; omega
      rw [← hT0] at C0
      rw [← hT1] at C1
      have a1 : ∀ W, (Op.stringOp .add S T0).run Try.prog W = .ok (.string (S ++ T0)) W := fun W => run_string_add_sum W _ _ (by omega)
      have hs2 : (S ++ T0).size = S.size + T0.size := append_size _ _
      have a2 : ∀ W, (Op.stringOp .add (S ++ T0) T1).run Try.prog W = .ok (.string (S ++ T0 ++ T1)) W := fun W => run_string_add_sum W _ _ (by omega)
      have HSE : Hid (S ++ T0 ++ T1 = ⟨(Lib.uvarint labs.length ++ labsF (labs.take (k + 1))).toArray⟩) := Lib.hid (by
        rw [hdx.out, hS, hT0, hT1, ByteArray.mk_append_mk, ByteArray.mk_append_mk]
        unfold labB
        simp only [List.append_assoc])
      generalize S ++ T0 = S2 at a1 a2 HSE hs2
      generalize S2 ++ T1 = S3 at a2 HSE
      have hss : ∀ o, wr.heap.size < (wr.alloc o).heap.size := fun o => by simp
      clear x0 x1 hcx hl hS hT0 hT1 hmk ht0 ht1 hs0 hs1 hs2 hSl
      go_wp2_with fail
      have f0 := cell_grown (w := wr.alloc (.cells #[.string x.n, .string x.v] 55)) (a := ⟨wr.heap.size, 0, none⟩) (v := .string x.n) (hss _) (by go_simp)
      have f1 := cell_grown (w := wr.alloc (.cells #[.string x.n, .string x.v] 55)) (a := ⟨wr.heap.size, 1, none⟩) (v := .string x.v) (hss _) (by go_simp)
      have HLa := Lib.hid (Keep.alloc HL.out (.cells #[.string x.n, .string x.v] 55))
      generalize wr.alloc (.cells #[.string x.n, .string x.v] 55) = wa at f0 f1 HLa ⊢
      have D0 := grown_layR C0 wa
      have D1 := grown_layR C1 wa
      clear C0 C1
      go_quiet_grown ((go_at_call 43; with_reducible (first | exact D0 _ _ | exact D1 _ _)))
      go_wp2_with fail
      go_roundw
      case rel => exact ⟨k + 1, S3, by go_num, rfl, by omega, HLa.out.trans (Lay.of_grown nq osq), HSE.out⟩
      case measure => simp [intOf]; omega
    · obtain rfl : k = labs.length := by omega
      go_wp2_with fail
      go_ret
      refine ⟨?_, HL.out⟩
      rw [HS.out, List.take_length]
      rfl

set_option maxHeartbeats 8000000 in
set_option maxRecDepth 100000 in
theorem refBytes_any {G : Nat → Prop} {w : World} {lv : Value} {e : Ent} (h : LabsAt G w lv e.labs) (hm : e.Mod) :
    Calls Try.prog 22 #[e.val lv] w fun x w' => x = .returned (.string ⟨e.bytes.toArray⟩) ∧ Lay w w' := by
  obtain ⟨a, ca, rfl, hl63, ha⟩ := id h
  obtain ⟨W0, hW0⟩ : ∃ W0, W0 = w.alloc (.cells #[.int .i64 e.tm, .slice a e.labs.length ca, .string e.line] 24) := ⟨_, rfl⟩
  have hl0 : Lay w W0 := by rw [hW0]; exact (Keep.refl _ _).alloc _
  have HL0 := Lib.hid hl0
  have x0 : W0.cell? ⟨w.heap.size, 0, none⟩ = some (.int .i64 e.tm) := by rw [hW0]; go_simp
  have x1 : W0.cell? ⟨w.heap.size, 1, none⟩ = some (.slice a e.labs.length ca) := by rw [hW0]; go_simp
  have x2 : W0.cell? ⟨w.heap.size, 2, none⟩ = some (.string e.line) := by rw [hW0]; go_simp
  have hss : w.heap.size < W0.heap.size := by rw [hW0]; simp
  have C1 := fun W => refL_int e.tm hm.lo hm.hi W
  have C2 : ∀ W, Lay W0 W → Calls Try.prog 20 #[.agg #[.int .i64 e.tm, .slice a e.labs.length ca, .string e.line]] W fun x w' => x = .returned (.string ⟨(labsB e.labs).toArray⟩) ∧ Lay W w' := fun W hl => refStream_any (h.lay (hl0.trans hl)) hm.labs
  have hline := hm.line
  have C3 := fun W => refL_text e.line (by omega) W
  have b1 := Lib.uvarint_length64 (Lib.zigzag_lt hm.lo hm.hi)
  have b2 := labsB_len hm.labs
  have b2' := hm.labs.1
  have b3 := textB_len e.line (by omega)
  have a1 := fun W => add_run (Lib.uvarint (Lib.zigzag e.tm)) (labsB e.labs) (by omega) W
  have a2 := fun W => add_run (Lib.uvarint (Lib.zigzag e.tm) ++ labsB e.labs) (textB e.line.data.toList) (by rw [List.length_append]; omega) W
  have he : Hid (Lib.uvarint (Lib.zigzag e.tm) ++ labsB e.labs ++ textB e.line.data.toList = e.bytes) := Lib.hid rfl
  obtain ⟨T1, hT1⟩ : ∃ p : ByteArray, p = ⟨(Lib.uvarint (Lib.zigzag e.tm)).toArray⟩ := ⟨_, rfl⟩
  obtain ⟨T2, hT2⟩ : ∃ p : ByteArray, p = ⟨(labsB e.labs).toArray⟩ := ⟨_, rfl⟩
  obtain ⟨T3, hT3⟩ : ∃ p : ByteArray, p = ⟨(textB e.line.data.toList).toArray⟩ := ⟨_, rfl⟩
  obtain ⟨T4, hT4⟩ : ∃ p : ByteArray, p = ⟨(Lib.uvarint (Lib.zigzag e.tm) ++ labsB e.labs).toArray⟩ := ⟨_, rfl⟩
  obtain ⟨T5, hT5⟩ : ∃ p : ByteArray, p = ⟨(Lib.uvarint (Lib.zigzag e.tm) ++ labsB e.labs ++ textB e.line.data.toList).toArray⟩ := ⟨_, rfl⟩
  rw [← hT1] at C1
  rw [← hT2] at C2
  rw [← hT3] at C3
  rw [← hT1, ← hT2, ← hT4] at a1
  rw [← hT4, ← hT3, ← hT5] at a2
  have HT5 := Lib.hid hT5
  have fx0 := cell_grown (w := W0) (a := ⟨w.heap.size, 0, none⟩) hss x0
  have fx1 := cell_grown (w := W0) (a := ⟨w.heap.size, 1, none⟩) hss x1
  have fx2 := cell_grown (w := W0) (a := ⟨w.heap.size, 2, none⟩) hss x2
  have D1 := grown_layR C1 W0
  have D3 := grown_layR C3 W0
  have D2 : ∀ n os, Calls Try.prog 20 #[.agg #[.int .i64 e.tm, .slice a e.labs.length ca, .string e.line]] (Sort.grow (W0.drewN n) os) fun x w'' => x = .returned (.string T2) ∧ ∃ p : GrownBy, w'' = Sort.grow (W0.drewN p.n) p.os := fun n os => grown_of_lay (C2 _ (Lay.of_grown n os))
  have hmx : Try.prog.follows .mixedOrders = true := by kernel_rfl
  unfold Ent.val
  clear h hm ha hl0 x0 x1 x2 C1 C2 C3 b1 b2 b2' b3 hT1 hT2 hT3 hT4 hT5 hline
  go_enter Try.func22, Try.ntmps22
  go_wp2_with fail
  rw [← hW0]
  clear hW0
  go_quiet_grown ((first | (go_at_call 46; with_reducible exact D1 _ _) | (go_at_call 20; with_reducible exact D2 _ _) | (go_at_call 43; with_reducible exact D3 _ _)))
  go_wp2_with fail
  go_ret
  refine ⟨?_, HL0.out.trans (Lay.of_grown nq osq)⟩
  rw [HT5.out, he.out]
  rfl

end Go.Proofs.Ytgcldnojmdabpaa
