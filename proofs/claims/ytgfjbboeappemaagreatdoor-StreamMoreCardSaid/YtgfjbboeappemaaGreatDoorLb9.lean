/-
  match.Label, Labels, Query: DOES A QUERY KEEP AN ENTRY?
-/
import Derived.Test.YtgfjbboeappemaaGreatDoorKe9
import Derived.Test.YtgfjbboeappemaaGreatDoorShelf
import Derived.Test.YtgfjbboeappemaaGreatDoorEt
import Derived.Test.YtgfjbboeappemaaGreatDoorQryA6
import Derived.WalkKit
import Derived.Lib.QuietBelow
namespace Go.Proofs.YtgfjbboeappemaaGreatDoor.E4
open Go.RowKit Go

set_option maxHeartbeats 4000000 in
set_option maxRecDepth 100000 in
theorem value_any {G : Nat → Prop} {w : World} {e : Ent} {lv : Value} (s : ByteArray) (h : LabsAt G w lv e.labs) :
    Calls Tryz.prog 118 #[e.val lv, .string s] w fun x w' => x = .returned (.tuple #[.string (valOf s e.labs).1, .bool (valOf s e.labs).2]) ∧ Lay w w' := by
  obtain ⟨a, ca, rfl, hl63, ha⟩ := h
  obtain ⟨tm, labs, line⟩ := e
  have HA := Lib.hid ha
  have HL0 : Hid (Lay w (w.alloc (.cells #[.int .i64 tm, .slice a labs.length ca, .string line] 29))) := Lib.hid ((Keep.refl _ _).alloc _)
  unfold Ent.val
  clear ha
  simp only [] at hl63 HA ⊢
  go_enter Tryz.func118, Tryz.ntmps118
  go_wp2_with fail
  go_loopw [11] (fun vi wr => ∃ k : Nat, vi = .int .i64 k ∧ k ≤ labs.length ∧ Lay w wr ∧ valOf s labs = valOf s (labs.drop k)) (fun vi _ => labs.length - (intOf vi).toNat)
  case atStart => exact ⟨0, rfl, Nat.zero_le _, HL0.out, by simp⟩
  case round =>
    obtain ⟨k, rfl, hk, hl, hz⟩ := hrel
    have HZ := Lib.hid hz
    have HL := Lib.hid hl
    clear hz
    by_cases hlt : k < labs.length
    · rcases HA.out with h0 | ⟨bx, ox, rfl, hgx, hbx, hcx⟩
      · exact absurd hlt (by rw [h0]; simp)
      obtain ⟨x0, x1⟩ := hcx k hlt
      have g0 := (hl.cell hbx).trans x0
      have g1 := (hl.cell hbx).trans x1
      have hdx := Lib.hid (List.drop_eq_getElem_cons hlt)
      generalize labs[k] = x at g0 g1 hdx x0 x1
      clear x0 x1 hcx hl
      cases hn : (x.n.toList == s.toList) with
      | true =>
        have HN := Lib.hid hn
        go_wp2_with fail
        go_ret2
        refine ⟨?_, HL.out.alloc _⟩
        rw [HZ.out, hdx.out, valOf, if_pos HN.out]
        rfl
      | false =>
        have HN := Lib.hid hn
        go_wp2_with fail
        go_roundw
        case rel => exact ⟨k + 1, by go_num, by omega, HL.out.alloc _, by rw [HZ.out, hdx.out, valOf, HN.out]; rfl⟩
        case measure => simp [intOf]; omega
    · obtain rfl : k = labs.length := by omega
      go_wp2_with fail
      go_ret2
      refine ⟨?_, HL.out⟩
      rw [HZ.out, List.drop_length]
      rfl

end Go.Proofs.YtgfjbboeappemaaGreatDoor.E4

namespace Go.Proofs.YtgfjbboeappemaaGreatDoor
open Go.RowKit Go
open Go.Sort (grow)

theorem E4.lay_below {w w' : World} (h : E4.Lay w w') : Below w.heap.size w w' := ⟨h.os, h.tape, h.output, h.size, fun _ hk => E4.Lay.block h hk⟩
theorem E4.labs_below {w w' : World} {v : Value} {ls : List E4.Lab} (h : E4.LabsAt (fun _ => True) w v ls) (hb : Below w.heap.size w w') : E4.LabsAt (fun _ => True) w' v ls := h.carry hb.size (fun _ _ hk => hb.block _ hk)

theorem MsAt.below9 {w w' : World} {v : Value} {l : List Mt} (h : MsAt w v l) (hb : Below w.heap.size w w') : MsAt w' v l := by
  obtain ⟨a, cap, hv, h1, h | ⟨b, off, ha, hlt, hc⟩⟩ := h
  · exact ⟨a, cap, hv, h1, .inl h⟩
  · exact ⟨a, cap, hv, h1, .inr ⟨b, off, ha, Nat.lt_of_lt_of_le hlt hb.size, fun i hi => ⟨(hb.cell hlt).trans (hc i hi).1, (hb.cell hlt).trans (hc i hi).2.1, (hb.cell hlt).trans (hc i hi).2.2⟩⟩⟩

/-- Does a matcher keep an entry? -/
def keepsM (e : E4.Ent) (m : Mt) : Bool := (((E4.valOf m.name e.labs).1.toList == m.value.toList) != m.not)

set_option maxHeartbeats 4000000 in
set_option maxRecDepth 100000 in
theorem label_any (m : Mt) (e : E4.Ent) (lv : Value) (w : World) (h : E4.LabsAt (fun _ => True) w lv e.labs) :
    Calls Tryz.prog 84 #[.agg #[.string m.name, .bool m.not, .string m.value], e.val lv] w fun x w' => x = .returned (.bool (keepsM e m)) ∧ Below w.heap.size w w' := by
  obtain ⟨a, ca, rfl, _, _⟩ := id h
  have hb0 : Below w.heap.size w ((w.alloc (.cells #[.string m.name, .bool m.not, .string m.value] 59)).alloc (.cells #[.int .i64 e.tm, .slice a e.labs.length ca, .string e.line] 29)) := ((Below.refl _ w).alloc (Nat.le_refl _) _).alloc (by simp) _
  have HV := Lib.hid (E4.value_any (e := e) m.name (E4.labs_below h hb0))
  have HB0 := Lib.hid hb0
  clear h hb0
  unfold keepsM
  generalize (E4.valOf m.name e.labs) = r at HV ⊢
  obtain ⟨x, y⟩ := r
  simp only [E4.Ent.val] at HV ⊢
  go_enter Tryz.func84, Tryz.ntmps84
  go_wp2_with fail
  refine HV.out.mono ?_
  rintro u w1 ⟨rfl, hl⟩
  have hm0 := CB.new w 59 #[.string m.name, .bool m.not, .string m.value]
  have hm1 : CB w1 w.heap.size 59 #[.string m.name, .bool m.not, .string m.value] := ((E4.lay_below hl).block _ (by simp; omega)).trans ((Below.heap_alloc _ _ _ (by simp)).trans hm0)
  have g1 := hm1.cell 1
  have g2 := hm1.cell 2
  have HB1 := Lib.hid (HB0.out.trans ((E4.lay_below hl).mono HB0.out.size))
  clear hl hm0 hm1
  simp only [List.getElem?_toArray, List.getElem?_cons_succ, List.getElem?_cons_zero] at g1 g2
  go_wp2_with fail
  go_ret
  exact ⟨rfl, HB1.out⟩

set_option maxHeartbeats 4000000 in
set_option maxRecDepth 100000 in
theorem label_fn (m : Mt) (e : E4.Ent) (lv : Value) (B : Nat) (w : World) (h : E4.LabsAt (fun _ => True) w lv e.labs) (hB : CB w B 29 #[.int .i64 e.tm, lv, .string e.line]) :
    Calls Tryz.prog 83 (#[m.val] ++ #[.pointer (some ⟨B, 0, none⟩)]) w fun x w' => x = .returned (.bool (!keepsM e m)) ∧ Below w.heap.size w w' := by
  obtain ⟨a, ca, rfl, _, _⟩ := id h
  have hb0 : Below w.heap.size w (w.alloc (.cells #[.string m.name, .bool m.not, .string m.value] 59)) := (Below.refl _ w).alloc (Nat.le_refl _) _
  have hB1 : CB (w.alloc (.cells #[.string m.name, .bool m.not, .string m.value] 59)) B 29 #[.int .i64 e.tm, .slice a e.labs.length ca, .string e.line] := (hb0.block _ hB.lt).trans hB
  have c0 := hB1.cell 0
  have c1 := hB1.cell 1
  have c2 := hB1.cell 2
  have HL := Lib.hid (label_any m e _ _ (E4.labs_below h hb0))
  have HB0 := Lib.hid hb0
  clear h hB hb0 hB1
  simp only [List.getElem?_toArray, List.getElem?_cons_succ, List.getElem?_cons_zero] at c0 c1 c2
  generalize keepsM e m = r at HL ⊢
  simp only [E4.Ent.val, Mt.val] at HL ⊢
  go_enter Tryz.func83, Tryz.ntmps83
  go_wp2_with (go_at_call 84; refine HL.out.mono ?_; rintro e w' ⟨rfl, hb'⟩)
  go_ret
  exact ⟨rfl, HB0.out.trans (hb'.mono HB0.out.size)⟩

theorem enters30 : ∀ args w, (callFunc 83 args).run Tryz.prog w = .ok (.enter 83 args) w := enters_of Tryz.func83 (by kernel_rfl) rfl

set_option maxHeartbeats 2000000 in
set_option maxRecDepth 100000 in
theorem index_mats (g : Nat) (lb : Array Value) (eg : ∀ args w, (callFunc g args).run Tryz.prog w = .ok (.enter g args) w) (p : Mt → Bool) (k : List Mt) (a : Option Addr) (c : Nat) (w : World) (hks : MsAt w (.slice a k.length c) k)
    (hp : ∀ (W : World) (x : Mt), Below w.heap.size w W → Calls Tryz.prog g (#[x.val] ++ lb) W fun e w' => e = .returned (.bool (p x)) ∧ Below W.heap.size W w') :
    Calls Tryz.prog 107 #[.slice a k.length c, .func (.func g) #[] lb] w fun e w' => ∃ r : Int, e = .returned (.int .i64 r) ∧ (0 ≤ r ↔ k.any p = true) ∧ Below w.heap.size w w' := by
  obtain ⟨a', cap, he, hl63, hks⟩ := hks
  obtain ⟨rfl, rfl⟩ : a' = a ∧ cap = c := by simpa [eq_comm] using he
  have HK := Lib.hid hks
  have HP := Lib.hid hp
  clear hks hp he
  go_enter Tryz.func107, Tryz.ntmps107
  go_wp2_with fail
  go_loopw [5, 8] (fun _ vi wr => ∃ i : Nat, vi = .int .i64 i ∧ i ≤ k.length ∧ (k.take i).any p = false ∧ Below w.heap.size w wr) (fun _ vi _ => k.length - (intOf vi).toNat)
  case atStart => exact ⟨0, rfl, Nat.zero_le _, rfl, Below.refl _ w⟩
  case round =>
    obtain ⟨i, rfl, hi, hn, hb⟩ := hrel
    have HB := Lib.hid hb
    have HN := Lib.hid hn
    clear hn
    by_cases hlt : i < k.length
    · rcases HK.out with h0 | ⟨b, off, rfl, hbl, hka⟩
      · exact absurd hlt (by rw [h0]; simp)
      obtain ⟨y0, y1, y2⟩ := hka i hlt
      have x0 := (hb.cell hbl).trans y0
      have x1 := (hb.cell hbl).trans y1
      have x2 := (hb.cell hbl).trans y2
      have HT : Hid ((k.take (i + 1)).any p = ((k.take i).any p || p k[i])) := Lib.hid (by rw [List.take_succ_eq_append_getElem hlt, List.any_append, List.any_cons, List.any_nil, Bool.or_false])
      have HM : Hid (p k[i] = true → k.any p = true) := Lib.hid fun h => List.any_eq_true.2 ⟨_, List.getElem_mem hlt, h⟩
      clear hka y0 y1 y2
      generalize k[i] = x at x0 x1 x2 HT HM
      have HC := Lib.hid (HP.out wr x HB.out)
      clear hb
      simp only [Mt.val] at HC
      cases hpx : p x with
      | true =>
        rw [hpx] at HC HM
        have HM2 := Lib.hid (HM.out rfl)
        clear HM
        go_wp2_with (go_at_fn g; refine HC.out.mono ?_; rintro e w' ⟨rfl, hb'⟩)
        go_ret
        exact ⟨_, rfl, ⟨fun _ => HM2.out, fun _ => by omega⟩, HB.out.trans (hb'.mono HB.out.size)⟩
      | false =>
        rw [hpx] at HC HT
        go_wp2_with (go_at_fn g; refine HC.out.mono ?_; rintro e w' ⟨rfl, hb'⟩)
        go_roundw
        case rel => exact ⟨i + 1, by go_num, by omega, by rw [HT.out, HN.out]; rfl, HB.out.trans (hb'.mono HB.out.size)⟩
        case measure => simp [intOf]; omega
    · obtain rfl : i = k.length := by omega
      have hn := HN.out
      rw [List.take_length] at hn
      have HE := Lib.hid hn
      clear hb hn
      go_wp2_with fail
      go_ret
      exact ⟨_, rfl, by rw [HE.out]; simp, HB.out⟩

set_option maxHeartbeats 2000000 in
theorem contains_mats (g : Nat) (lb : Array Value) (eg : ∀ args w, (callFunc g args).run Tryz.prog w = .ok (.enter g args) w) (p : Mt → Bool) (k : List Mt) (a : Option Addr) (c : Nat) (w : World) (hks : MsAt w (.slice a k.length c) k)
    (hp : ∀ (W : World) (x : Mt), Below w.heap.size w W → Calls Tryz.prog g (#[x.val] ++ lb) W fun e w' => e = .returned (.bool (p x)) ∧ Below W.heap.size W w') :
    Calls Tryz.prog 77 #[.slice a k.length c, .func (.func g) #[] lb] w fun e w' => e = .returned (.bool (k.any p)) ∧ Below w.heap.size w w' := by
  have HI := Lib.hid (index_mats g lb eg p k a c w hks hp)
  clear hks hp
  generalize k.any p = b at HI ⊢
  go_enter Tryz.func77, Tryz.ntmps77
  go_wp2_with (go_at_call 107; refine HI.out.mono ?_; rintro e w' ⟨r, rfl, hr, hb'⟩)
  go_ret
  refine ⟨?_, hb'⟩
  congr 2

set_option maxHeartbeats 4000000 in
set_option maxRecDepth 100000 in
theorem labels_any (l : List Mt) (mv : Value) (e : E4.Ent) (lv : Value) (w : World) (hm : MsAt w mv l) (h : E4.LabsAt (fun _ => True) w lv e.labs) :
    Calls Tryz.prog 51 #[mv, e.val lv] w fun x w' => x = .returned (.bool (l.all (keepsM e))) ∧ Below w.heap.size w w' := by
  obtain ⟨a, ca, rfl, _, _⟩ := id h
  obtain ⟨b, cb, rfl, _, _⟩ := id hm
  have hb0 : Below w.heap.size w (w.alloc (.cells #[.int .i64 e.tm, .slice a e.labs.length ca, .string e.line] 29)) := (Below.refl _ w).alloc (Nat.le_refl _) _
  have hB1 := CB.new w 29 #[.int .i64 e.tm, .slice a e.labs.length ca, .string e.line]
  have HC := Lib.hid (contains_mats 83 #[.pointer (some ⟨w.heap.size, 0, none⟩)] enters30 (fun m => !keepsM e m) l b cb _ (hm.below9 hb0) fun W x hW => label_fn x e _ w.heap.size W (E4.labs_below (E4.labs_below h hb0) hW) ((hW.block _ (by simp)).trans hB1))
  have HB0 := Lib.hid hb0
  clear hm h hb0 hB1
  rw [show l.all (keepsM e) = !l.any (fun x => !keepsM e x) by simp [List.all_eq_not_any_not]]
  generalize l.any (fun x => !keepsM e x) = r at HC ⊢
  simp only [E4.Ent.val]
  go_enter Tryz.func51, Tryz.ntmps51
  go_wp2_with (go_at_call 77; refine HC.out.mono ?_; rintro e w' ⟨rfl, hb'⟩)
  go_ret
  exact ⟨rfl, HB0.out.trans (hb'.mono HB0.out.size)⟩

end Go.Proofs.YtgfjbboeappemaaGreatDoor
