/-
  WdA, TrA, FlA, QryA6, Lb9, Bs13, Md11.
-/
import Derived.Lib.DecodeN
import Derived.Lib.Strings
import Derived.Test.YtoobjjpheegmdaaGreatRows
import Derived.WalkKit
import Derived.WalkSpells
import Derived.WalkLawsBesides
import Derived.Deep.Upon
import Derived.Lib.ConvBytes
import Derived.Lib.Hide
import Derived.Sort.Grow
import Derived.WalkSmall
import Derived.Deep.QuietTactic
import Derived.BigQuiet
import Derived.Lib.OthersKept
import Derived.Lib.Walk
import Derived.Outline
import Derived.OwnWalk
import Derived.Deep.RegionWith
import Derived.Laws.StructEq
import Derived.OrdersIn
import Derived.OwnWalkIn
import Derived.TacticsInMore
import Derived.LoopNIn
import Derived.LoopIn
import Derived.RangeFuncLeaves
import Derived.RangeFuncCalls
import Derived.Deep.RegionLaw
import Derived.Test.YtoobjjpheegmdaaGreatJ05
import Derived.Test.YtoobjjpheegmdaaGreatJ02
import Derived.Test.YtoobjjpheegmdaaGreatJ01
import Derived.Lib.QuietBelow
import Derived.Lib.IndexMore
import Derived.Test.YtoobjjpheegmdaaGreatJ04
namespace Go.Proofs.YtoobjjpheegmdaaGreat.MW
open Go
def dec (l : List UInt8) : Nat × Nat := Lib.decodeN l.length (l.getD 0 0).toNat (l.getD 1 0).toNat (l.getD 2 0).toNat (l.getD 3 0).toNat
theorem get_getD (s : ByteArray) (i : Nat) : s.get! i = s.data.toList.getD i 0 := by
  simp only [ByteArray.get!, List.getD_eq_getElem?_getD, Array.getElem?_toList]
  rw [getElem!_def]
  cases s.data[i]? <;> rfl
theorem dec_at (s : ByteArray) (i : Nat) : Utf8.decode s i = dec (s.data.toList.drop i) := by
  have e : ∀ k, s.get! (i + k) = (s.data.toList.drop i).getD k 0 := fun k => by
    rw [get_getD]
    simp [List.getD_eq_getElem?_getD]
  have e0 := e 0
  rw [Nat.add_zero] at e0
  rw [Lib.decode_at s i, e0, e 1, e 2, e 3]
  unfold dec
  rw [List.length_drop]
  rfl
theorem dec_pos (l : List UInt8) : 1 ≤ (dec l).2 := by
  unfold dec Lib.decodeN
  repeat' split
  all_goals simp
theorem dec_le (l : List UInt8) (h : l ≠ []) : (dec l).2 ≤ l.length := by
  have hp := List.length_pos_iff.2 h
  unfold dec Lib.decodeN
  repeat' split
  all_goals simp only
  all_goals omega
theorem drop_lt (l : List UInt8) (h : l ≠ []) : (l.drop (dec l).2).length < l.length := by
  have := dec_pos l
  have := List.length_pos_iff.2 h
  rw [List.length_drop]
  omega
theorem dec_drop {l : List UInt8} {pos : Nat} (h : pos < l.length) : 1 ≤ (dec (l.drop pos)).2 ∧ pos + (dec (l.drop pos)).2 ≤ l.length := by
  have h1 := dec_pos (l.drop pos)
  have h2 := dec_le (l.drop pos) (by intro e; have := congrArg List.length e; simp at this; omega)
  rw [List.length_drop] at h2
  omega
end Go.Proofs.YtoobjjpheegmdaaGreat.MW
namespace Go.Proofs.YtoobjjpheegmdaaGreat
open Go.RowKit Go
end Go.Proofs.YtoobjjpheegmdaaGreat
namespace Go.Proofs.YtoobjjpheegmdaaGreat
open Go.RowKit Go
theorem ret_bool {a b : Bool} (h : a = b) : Ending.returned (.bool a) = .returned (.bool b) := by rw [h]
end Go.Proofs.YtoobjjpheegmdaaGreat
namespace Go.Proofs.YtoobjjpheegmdaaGreat
open Go.RowKit Go
end Go.Proofs.YtoobjjpheegmdaaGreat
namespace Go.Proofs.YtoobjjpheegmdaaGreat
open Go MW
namespace Ft
end Ft
end Go.Proofs.YtoobjjpheegmdaaGreat
namespace Go.Proofs.YtoobjjpheegmdaaGreat
open Go.RowKit Go
end Go.Proofs.YtoobjjpheegmdaaGreat
namespace Go.Proofs.YtoobjjpheegmdaaGreat
open Go.RowKit Go
end Go.Proofs.YtoobjjpheegmdaaGreat
namespace Go.Proofs.YtoobjjpheegmdaaGreat
open Go MW
namespace Ft
end Ft
end Go.Proofs.YtoobjjpheegmdaaGreat
namespace Go.Proofs.YtoobjjpheegmdaaGreat
open Go.RowKit Go
def IntsAt (w : World) (v : Value) (l : List Int) : Prop :=
  ∃ a cap, v = .slice a l.length cap ∧ l.length ≤ 9223372036854775807 ∧ (l = [] ∨ ∃ b off, a = some ⟨b, off, none⟩ ∧ b < w.heap.size ∧ ∀ i (h : i < l.length), w.cell? ⟨b, off + i, none⟩ = some (.int .i64 l[i]))
end Go.Proofs.YtoobjjpheegmdaaGreat
namespace Go.Proofs.YtoobjjpheegmdaaGreat
open Go.RowKit Go
namespace Ft
end Ft
end Go.Proofs.YtoobjjpheegmdaaGreat
namespace Go.Proofs.YtoobjjpheegmdaaGreat
open Go.RowKit Go
end Go.Proofs.YtoobjjpheegmdaaGreat
namespace Go.Proofs.YtoobjjpheegmdaaGreat
open Go.RowKit Go
end Go.Proofs.YtoobjjpheegmdaaGreat
namespace Go.Proofs.YtoobjjpheegmdaaGreat
open Go.RowKit Go
structure Mt where
  name : ByteArray
  not : Bool
  value : ByteArray
deriving DecidableEq
def Mt.val (m : Mt) : Value := .agg #[.string m.name, .bool m.not, .string m.value]
def MsAt (w : World) (v : Value) (l : List Mt) : Prop :=
  ∃ a cap, v = .slice a l.length cap ∧ l.length ≤ 9223372036854775807 ∧ (l = [] ∨ ∃ b off, a = some ⟨b, off, none⟩ ∧ b < w.heap.size ∧
    ∀ i (h : i < l.length), w.cell? ⟨b, off + i * 3, none⟩ = some (.string l[i].name) ∧ w.cell? ⟨b, off + i * 3 + 1, none⟩ = some (.bool l[i].not) ∧ w.cell? ⟨b, off + i * 3 + 2, none⟩ = some (.string l[i].value))
end Go.Proofs.YtoobjjpheegmdaaGreat
namespace Go.Proofs.YtoobjjpheegmdaaGreat
open Go.RowKit Go
def CB (W : World) (B : Nat) (t : TypeId) (arr : Array Value) : Prop := W.heap[B]? = some (.cells arr t (0, 0))
theorem CB.lt {W : World} {B : Nat} {t : TypeId} {arr : Array Value} (h : CB W B t arr) : B < W.heap.size := (Array.getElem?_eq_some_iff.1 h).1
theorem CB.cell {W : World} {B : Nat} {t : TypeId} {arr : Array Value} (h : CB W B t arr) (i : Nat) : W.cell? ⟨B, i, none⟩ = arr[i]? := by simp [World.cell?, show W.heap[B]? = _ from h]
theorem CB.new (W : World) (t : TypeId) (arr : Array Value) : CB (W.alloc (.cells arr t)) W.heap.size t arr := World.alloc_heap_new W _
namespace Qy
end Qy
section
variable {g Q B0 : Nat} {v : Value} {l : List Int} {p p1 p2 p3 n : Nat} {mv : Value} {pre : List Mt} {m : Mt} {W0 : World} {listed : Array Bool} {ys : Nat → Value} {w : World}
end
end Go.Proofs.YtoobjjpheegmdaaGreat
namespace Go.Proofs.YtoobjjpheegmdaaGreat.E4
open Go.RowKit Go
set_option maxHeartbeats 4000000 in
set_option maxRecDepth 100000 in
theorem value_any {G : Nat → Prop} {w : World} {e : Ent} {lv : Value} (s : ByteArray) (h : LabsAt G w lv e.labs) :
    Calls Tryz.prog 168 #[e.val lv, .string s] w fun x w' => x = .returned (.tuple #[.string (valOf s e.labs).1, .bool (valOf s e.labs).2]) ∧ Lay w w' := by
  obtain ⟨a, ca, rfl, hl63, ha⟩ := h
  obtain ⟨tm, labs, line⟩ := e
  have HA := Lib.hid ha
  have HL0 : Hid (Lay w (w.alloc (.cells #[.int .i64 tm, .slice a labs.length ca, .string line] 32))) := Lib.hid ((Keep.refl _ _).alloc _)
  unfold Ent.val
  clear ha
  simp only [] at hl63 HA ⊢
  go_enter Tryz.func168, Tryz.ntmps168
  go_wp2_with fail
  go_loopw [11] (fun vi wr => ∃ k : Nat, vi = .int .i64 k ∧ k ≤ labs.length ∧ Lay w wr ∧ valOf s labs = valOf s (labs.drop k)) (fun vi _ => labs.length - (intOf vi).toNat)
  case atStart => exact ⟨0, rfl, Nat.zero_le _, HL0.out, by simp⟩
  case round =>
    obtain ⟨k, rfl, hk, hl, hz⟩ := hrel
    have HZ := Lib.hid hz
    have HL := Lib.hid hl
    clear hz
    by_cases hlt : k < labs.length
    · rcases HA.out with h0 | ⟨bx, ox, rfl, hgx, hbx, hcx⟩
      · exact absurd hlt (by rw [h0]; simp)
      obtain ⟨x0, x1⟩ := hcx k hlt
      have g0 := (hl.cell hbx).trans x0
      have g1 := (hl.cell hbx).trans x1
      have hdx := Lib.hid (List.drop_eq_getElem_cons hlt)
      generalize labs[k] = x at g0 g1 hdx x0 x1
      clear x0 x1 hcx hl
      cases hn : (x.n.toList == s.toList) with
      | true =>
        have HN := Lib.hid hn
        go_wp2_with fail
        go_ret2
        refine ⟨?_, HL.out.alloc _⟩
        rw [HZ.out, hdx.out, valOf, if_pos HN.out]
        rfl
      | false =>
        have HN := Lib.hid hn
        go_wp2_with fail
        go_roundw
        case rel => exact ⟨k + 1, by go_num, by omega, HL.out.alloc _, by rw [HZ.out, hdx.out, valOf, HN.out]; rfl⟩
        case measure => simp [intOf]; omega
    · obtain rfl : k = labs.length := by omega
      go_wp2_with fail
      go_ret2
      refine ⟨?_, HL.out⟩
      rw [HZ.out, List.drop_length]
      rfl
end Go.Proofs.YtoobjjpheegmdaaGreat.E4
namespace Go.Proofs.YtoobjjpheegmdaaGreat
open Go.RowKit Go
open Go.Sort (grow)
theorem E4.lay_below {w w' : World} (h : E4.Lay w w') : Below w.heap.size w w' := ⟨h.os, h.tape, h.output, h.size, fun _ hk => E4.Lay.block h hk⟩
theorem E4.labs_below {w w' : World} {v : Value} {ls : List E4.Lab} (h : E4.LabsAt (fun _ => True) w v ls) (hb : Below w.heap.size w w') : E4.LabsAt (fun _ => True) w' v ls := h.carry hb.size (fun _ _ hk => hb.block _ hk)
theorem MsAt.below9 {w w' : World} {v : Value} {l : List Mt} (h : MsAt w v l) (hb : Below w.heap.size w w') : MsAt w' v l := by
  obtain ⟨a, cap, hv, h1, h | ⟨b, off, ha, hlt, hc⟩⟩ := h
  · exact ⟨a, cap, hv, h1, .inl h⟩
  · exact ⟨a, cap, hv, h1, .inr ⟨b, off, ha, Nat.lt_of_lt_of_le hlt hb.size, fun i hi => ⟨(hb.cell hlt).trans (hc i hi).1, (hb.cell hlt).trans (hc i hi).2.1, (hb.cell hlt).trans (hc i hi).2.2⟩⟩⟩
def keepsM (e : E4.Ent) (m : Mt) : Bool := (((E4.valOf m.name e.labs).1.toList == m.value.toList) != m.not)
set_option maxHeartbeats 4000000 in
set_option maxRecDepth 100000 in
theorem label_any (m : Mt) (e : E4.Ent) (lv : Value) (w : World) (h : E4.LabsAt (fun _ => True) w lv e.labs) :
    Calls Tryz.prog 163 #[.agg #[.string m.name, .bool m.not, .string m.value], e.val lv] w fun x w' => x = .returned (.bool (keepsM e m)) ∧ Below w.heap.size w w' := by
  obtain ⟨a, ca, rfl, _, _⟩ := id h
  have hb0 : Below w.heap.size w ((w.alloc (.cells #[.string m.name, .bool m.not, .string m.value] 89)).alloc (.cells #[.int .i64 e.tm, .slice a e.labs.length ca, .string e.line] 32)) := ((Below.refl _ w).alloc (Nat.le_refl _) _).alloc (by simp) _
  have HV := Lib.hid (E4.value_any (e := e) m.name (E4.labs_below h hb0))
  have HB0 := Lib.hid hb0
  clear h hb0
  unfold keepsM
  generalize (E4.valOf m.name e.labs) = r at HV ⊢
  obtain ⟨x, y⟩ := r
  simp only [E4.Ent.val] at HV ⊢
  go_enter Tryz.func163, Tryz.ntmps163
  go_wp2_with fail
  refine HV.out.mono ?_
  rintro u w1 ⟨rfl, hl⟩
  have hm0 := CB.new w 89 #[.string m.name, .bool m.not, .string m.value]
  have hm1 : CB w1 w.heap.size 89 #[.string m.name, .bool m.not, .string m.value] := ((E4.lay_below hl).block _ (by simp; omega)).trans ((Below.heap_alloc _ _ _ (by simp)).trans hm0)
  have g1 := hm1.cell 1
  have g2 := hm1.cell 2
  have HB1 := Lib.hid (HB0.out.trans ((E4.lay_below hl).mono HB0.out.size))
  clear hl hm0 hm1
  simp only [List.getElem?_toArray, List.getElem?_cons_succ, List.getElem?_cons_zero] at g1 g2
  go_wp2_with fail
  go_ret
  exact ⟨rfl, HB1.out⟩
set_option maxHeartbeats 4000000 in
set_option maxRecDepth 100000 in
theorem label_fn (m : Mt) (e : E4.Ent) (lv : Value) (B : Nat) (w : World) (h : E4.LabsAt (fun _ => True) w lv e.labs) (hB : CB w B 32 #[.int .i64 e.tm, lv, .string e.line]) :
    Calls Tryz.prog 162 (#[m.val] ++ #[.pointer (some ⟨B, 0, none⟩)]) w fun x w' => x = .returned (.bool (!keepsM e m)) ∧ Below w.heap.size w w' := by
  obtain ⟨a, ca, rfl, _, _⟩ := id h
  have hb0 : Below w.heap.size w (w.alloc (.cells #[.string m.name, .bool m.not, .string m.value] 89)) := (Below.refl _ w).alloc (Nat.le_refl _) _
  have hB1 : CB (w.alloc (.cells #[.string m.name, .bool m.not, .string m.value] 89)) B 32 #[.int .i64 e.tm, .slice a e.labs.length ca, .string e.line] := (hb0.block _ hB.lt).trans hB
  have c0 := hB1.cell 0
  have c1 := hB1.cell 1
  have c2 := hB1.cell 2
  have HL := Lib.hid (label_any m e _ _ (E4.labs_below h hb0))
  have HB0 := Lib.hid hb0
  clear h hB hb0 hB1
  simp only [List.getElem?_toArray, List.getElem?_cons_succ, List.getElem?_cons_zero] at c0 c1 c2
  generalize keepsM e m = r at HL ⊢
  simp only [E4.Ent.val, Mt.val] at HL ⊢
  go_enter Tryz.func162, Tryz.ntmps162
  go_wp2_with (go_at_call 163; refine HL.out.mono ?_; rintro e w' ⟨rfl, hb'⟩)
  go_ret
  exact ⟨rfl, HB0.out.trans (hb'.mono HB0.out.size)⟩
theorem enters30 : ∀ args w, (callFunc 162 args).run Tryz.prog w = .ok (.enter 162 args) w := enters_of Tryz.func162 (by kernel_rfl) rfl
set_option maxHeartbeats 2000000 in
set_option maxRecDepth 100000 in
theorem index_mats (g : Nat) (lb : Array Value) (eg : ∀ args w, (callFunc g args).run Tryz.prog w = .ok (.enter g args) w) (p : Mt → Bool) (k : List Mt) (a : Option Addr) (c : Nat) (w : World) (hks : MsAt w (.slice a k.length c) k)
    (hp : ∀ (W : World) (x : Mt), k ≠ [] → Below w.heap.size w W → Calls Tryz.prog g (#[x.val] ++ lb) W fun e w' => e = .returned (.bool (p x)) ∧ Below W.heap.size W w') :
    Calls Tryz.prog 117 #[.slice a k.length c, .func (.func g) #[] lb] w fun e w' => ∃ r : Int, e = .returned (.int .i64 r) ∧ (0 ≤ r ↔ k.any p = true) ∧ Below w.heap.size w w' := by
  obtain ⟨a', cap, he, hl63, hks⟩ := hks
  obtain ⟨rfl, rfl⟩ : a' = a ∧ cap = c := by simpa [eq_comm] using he
  have HK := Lib.hid hks
  have HP := Lib.hid hp
  clear hks hp he
  go_enter Tryz.func117, Tryz.ntmps117
  go_wp2_with fail
  go_loopw [5, 8] (fun _ vi wr => ∃ i : Nat, vi = .int .i64 i ∧ i ≤ k.length ∧ (k.take i).any p = false ∧ Below w.heap.size w wr) (fun _ vi _ => k.length - (intOf vi).toNat)
  case atStart => exact ⟨0, rfl, Nat.zero_le _, rfl, Below.refl _ w⟩
  case round =>
    obtain ⟨i, rfl, hi, hn, hb⟩ := hrel
    have HB := Lib.hid hb
    have HN := Lib.hid hn
    clear hn
    by_cases hlt : i < k.length
    · rcases HK.out with h0 | ⟨b, off, rfl, hbl, hka⟩
      · exact absurd hlt (by rw [h0]; simp)
      obtain ⟨y0, y1, y2⟩ := hka i hlt
      have x0 := (hb.cell hbl).trans y0
      have x1 := (hb.cell hbl).trans y1
      have x2 := (hb.cell hbl).trans y2
      have HT : Hid ((k.take (i + 1)).any p = ((k.take i).any p || p k[i])) := Lib.hid (by rw [List.take_succ_eq_append_getElem hlt, List.any_append, List.any_cons, List.any_nil, Bool.or_false])
      have HM : Hid (p k[i] = true → k.any p = true) := Lib.hid fun h => List.any_eq_true.2 ⟨_, List.getElem_mem hlt, h⟩
      clear hka y0 y1 y2
      generalize k[i] = x at x0 x1 x2 HT HM
      have HC := Lib.hid (HP.out wr x (fun h => by rw [h] at hlt; simp at hlt) HB.out)
      clear hb
      simp only [Mt.val] at HC
      cases hpx : p x with
      | true =>
        rw [hpx] at HC HM
        have HM2 := Lib.hid (HM.out rfl)
        clear HM
        go_wp2_with (go_at_fn g; refine HC.out.mono ?_; rintro e w' ⟨rfl, hb'⟩)
        go_ret
        exact ⟨_, rfl, ⟨fun _ => HM2.out, fun _ => by omega⟩, HB.out.trans (hb'.mono HB.out.size)⟩
      | false =>
        rw [hpx] at HC HT
        go_wp2_with (go_at_fn g; refine HC.out.mono ?_; rintro e w' ⟨rfl, hb'⟩)
        go_roundw
        case rel => exact ⟨i + 1, by go_num, by omega, by rw [HT.out, HN.out]; rfl, HB.out.trans (hb'.mono HB.out.size)⟩
        case measure => simp [intOf]; omega
    · obtain rfl : i = k.length := by omega
      have hn := HN.out
      rw [List.take_length] at hn
      have HE := Lib.hid hn
      clear hb hn
      go_wp2_with fail
      go_ret
      exact ⟨_, rfl, by rw [HE.out]; simp, HB.out⟩
set_option maxHeartbeats 2000000 in
theorem contains_mats (g : Nat) (lb : Array Value) (eg : ∀ args w, (callFunc g args).run Tryz.prog w = .ok (.enter g args) w) (p : Mt → Bool) (k : List Mt) (a : Option Addr) (c : Nat) (w : World) (hks : MsAt w (.slice a k.length c) k)
    (hp : ∀ (W : World) (x : Mt), k ≠ [] → Below w.heap.size w W → Calls Tryz.prog g (#[x.val] ++ lb) W fun e w' => e = .returned (.bool (p x)) ∧ Below W.heap.size W w') :
    Calls Tryz.prog 106 #[.slice a k.length c, .func (.func g) #[] lb] w fun e w' => e = .returned (.bool (k.any p)) ∧ Below w.heap.size w w' := by
  have HI := Lib.hid (index_mats g lb eg p k a c w hks hp)
  clear hks hp
  generalize k.any p = b at HI ⊢
  go_enter Tryz.func106, Tryz.ntmps106
  go_wp2_with (go_at_call 117; refine HI.out.mono ?_; rintro e w' ⟨r, rfl, hr, hb'⟩)
  go_ret
  refine ⟨?_, hb'⟩
  congr 2
set_option maxHeartbeats 4000000 in
set_option maxRecDepth 100000 in
theorem labels_any (l : List Mt) (mv : Value) (e : E4.Ent) (lv : Value) (w : World) (hm : MsAt w mv l) (h : E4.LabsAt (fun _ => True) w lv e.labs) :
    Calls Tryz.prog 156 #[mv, e.val lv] w fun x w' => x = .returned (.bool (l.all (keepsM e))) ∧ Below w.heap.size w w' := by
  obtain ⟨a, ca, rfl, _, _⟩ := id h
  obtain ⟨b, cb, rfl, _, _⟩ := id hm
  have hb0 : Below w.heap.size w (w.alloc (.cells #[.int .i64 e.tm, .slice a e.labs.length ca, .string e.line] 32)) := (Below.refl _ w).alloc (Nat.le_refl _) _
  have hB1 := CB.new w 32 #[.int .i64 e.tm, .slice a e.labs.length ca, .string e.line]
  have HC := Lib.hid (contains_mats 162 #[.pointer (some ⟨w.heap.size, 0, none⟩)] enters30 (fun m => !keepsM e m) l b cb _ (hm.below9 hb0) fun W x _ hW => label_fn x e _ w.heap.size W (E4.labs_below (E4.labs_below h hb0) hW) ((hW.block _ (by simp)).trans hB1))
  have HB0 := Lib.hid hb0
  clear hm h hb0 hB1
  rw [show l.all (keepsM e) = !l.any (fun x => !keepsM e x) by simp [List.all_eq_not_any_not]]
  generalize l.any (fun x => !keepsM e x) = r at HC ⊢
  simp only [E4.Ent.val]
  go_enter Tryz.func156, Tryz.ntmps156
  go_wp2_with (go_at_call 106; refine HC.out.mono ?_; rintro e w' ⟨rfl, hb'⟩)
  go_ret
  exact ⟨rfl, HB0.out.trans (hb'.mono HB0.out.size)⟩
end Go.Proofs.YtoobjjpheegmdaaGreat
namespace Go.Proofs.YtoobjjpheegmdaaGreat.E4
open Go.RowKit Go
open Go.Sort (grow)
theorem LabsAt.below1 {G : Nat → Prop} {w w' : World} {v : Value} {ls : List Lab} (h : LabsAt G w v ls) (hb : Below w.heap.size w w') : LabsAt G w' v ls := h.carry hb.size (fun _ _ hk => hb.block _ hk)
theorem EntsAt.below1 {G L : Nat → Prop} {w w' : World} {v : Value} {es : List Ent} (h : EntsAt G L w v es) (hb : Below w.heap.size w w') : EntsAt G L w' v es := h.carry hb.size (fun _ _ hk => hb.block _ hk)
theorem EntsAt.any {G L : Nat → Prop} {w : World} {v : Value} {es : List Ent} (h : EntsAt G L w v es) : EntsAt (fun _ => True) (fun _ => True) w v es := h.mono (fun _ _ _ => trivial) (fun _ _ _ => trivial)
theorem RawL.below1 {L : Nat → Prop} {w w' : World} {R : List (Value × Ent)} (h : RawL L w R) (hb : Below w.heap.size w w') : RawL L w' R := fun x hx => (h x hx).below1 hb
theorem Rk.below1 {k : Nat} {G : Nat → Prop} {w w' : World} {v : Value} {n : Nat} {xs : List Value} (h : Rk k G w v n xs) (hb : Below w.heap.size w w') : Rk k G w' v n xs := h.carry hb.size fun _ _ _ hk => hb.block _ hk
theorem below_mid {a b c : World} (h : Below a.heap.size a b) (k : Below b.heap.size b c) : Below a.heap.size a c := h.trans (k.mono h.size)
theorem keep_below {v : Value} {k : Nat} {G : Nat → Prop} {a w w' : World} {n : Nat} {xs : List Value} (hrk : Rk k G w v n xs) (hG : ∀ b, G b → a.heap.size ≤ b) (h : Below a.heap.size a w) (hk : Keep (At v) w w') : Below a.heap.size a w' :=
  h.trans ⟨hk.os, hk.tape, hk.output, hk.size, fun b hb => hk.block b (Nat.lt_of_lt_of_le hb h.size) fun ha => by have := hG b (hrk.at ha).1; omega⟩
theorem lay_keepB {a W W' : World} {v : Value} (h : Lay a W) (hk : Keep (At v) W W') (hv : ∀ b, At v b → a.heap.size ≤ b) : Lay a W' :=
  ((h.into (H := At v) (fun _ _ h => h.elim)).trans hk).into fun b hlt hb => by have := hv b hb; omega
theorem filter_take (p : Ent → Bool) (es : List Ent) (j : Nat) (hj : j < es.length) : (es.take (j + 1)).filter p = (es.take j).filter p ++ if p es[j] then [es[j]] else [] := by
  rw [← List.take_append_getElem hj, List.filter_append]
  congr 1
  rw [List.filter_cons]
  simp
def Sq (v : Value) (n : Nat) : Prop := (v = .slice none 0 0 ∧ n = 0) ∨ ∃ g cap, v = .slice (some ⟨g, 0, none⟩) n cap ∧ n ≤ cap
theorem Rk.sq {k : Nat} {G : Nat → Prop} {w : World} {v : Value} {n : Nat} {xs : List Value} (h : Rk k G w v n xs) : Sq v n := by
  obtain ⟨_, ⟨h1, h2⟩ | ⟨g, cap, h1, _, _, h2, _⟩⟩ := h
  · exact .inl ⟨h1, h2⟩
  · exact .inr ⟨g, cap, h1, h2⟩
end Go.Proofs.YtoobjjpheegmdaaGreat.E4
namespace Go.Proofs.YtoobjjpheegmdaaGreat.E4.Md
open Go
variable {α : Type} {c : α → α → Int}
def behind (c : α → α → Int) (a : Option α) (e : α) : Bool := match a with
  | none => true
  | some x => decide (c x e = -1)
def rest (c : α → α → Int) (a : Option α) (l : List α) : List α := l.filter (behind c a)
def cut (c : α → α → Int) (a : Option α) (n : Nat) (l : List α) : List α × Bool := ((rest c a l).take n, decide ((rest c a l).length ≤ n))
def InRow (c : α → α → Int) (l : List α) : Prop := l.Pairwise fun a b => c a b = -1
def isB (c : α → α → Int) (a : α) (l : List α) (d : α) (i : Nat) : Bool := decide (c a (l.getD i d) = -1)
theorem isB_mono (hc : LC c) {a d : α} {l : List α} (h : InRow c l) (i j : Nat) (hij : i ≤ j) (hj : j < l.length) (hi : isB c a l d i = true) : isB c a l d j = true := by
  unfold isB at hi ⊢
  rcases Nat.lt_or_ge i j with hlt | hge
  · have h1 := List.pairwise_iff_getElem.1 h i j (by omega) hj hlt
    simp only [List.getD, List.getElem?_eq_getElem (show i < l.length by omega), List.getElem?_eq_getElem hj, Option.getD_some, decide_eq_true_eq] at hi ⊢
    exact hc.tr _ _ _ hi h1
  · obtain rfl : i = j := by omega
    exact hi
theorem drop_isB (hc : LC c) (a d : α) : ∀ {l : List α}, InRow c l → l.drop ((List.range l.length).countP fun i => !isB c a l d i) = rest c (some a) l
  | [], _ => rfl
  | x :: l, h => by
    obtain ⟨h1, h2⟩ := List.pairwise_cons.1 h
    have ih := drop_isB hc a d h2
    have e0 : isB c a (x :: l) d 0 = decide (c a x = -1) := rfl
    have e1 : ∀ i, isB c a (x :: l) d (i + 1) = isB c a l d i := fun i => by simp [isB]
    rw [List.length_cons, List.range_succ_eq_map, List.countP_cons, List.countP_map]
    have e2 : ((fun i => !isB c a (x :: l) d i) ∘ Nat.succ) = fun i => !isB c a l d i := by
      funext i
      exact congrArg (fun b => !b) (e1 i)
    rw [e2, e0]
    by_cases hx : c a x = -1
    · have h3 : (List.range l.length).countP (fun i => !isB c a l d i) = 0 := by
        rw [List.countP_eq_zero]
        intro i hi
        have hil : i < l.length := by simpa using hi
        have h4 := hc.tr _ _ _ hx (h1 l[i] (List.getElem_mem hil))
        simp [isB, hil, h4]
      rw [h3]
      simp only [hx, decide_true, Bool.not_true, Bool.false_eq_true, if_false, Nat.add_zero, List.drop_zero]
      unfold rest
      rw [List.filter_eq_self.2]
      intro y hy
      rcases List.mem_cons.1 hy with rfl | hy
      · simp [behind, hx]
      · simp [behind, hc.tr _ _ _ hx (h1 y hy)]
    · simp only [hx, decide_false, Bool.not_false, if_true, List.drop_succ_cons]
      rw [ih]
      unfold rest
      rw [List.filter_cons_of_neg (by simp [behind, hx])]
theorem countP_le (a d : α) (l : List α) : (List.range l.length).countP (fun i => !isB c a l d i) ≤ l.length := by
  have := List.countP_le_length (p := fun i => !isB c a l d i) (l := List.range l.length)
  simpa using this
theorem rest_none (l : List α) : rest c none l = l := by
  unfold rest
  rw [List.filter_eq_self]
  intro y _
  rfl
theorem rest_len (a : Option α) (l : List α) : (rest c a l).length ≤ l.length := List.length_filter_le _ _
theorem take_min (n : Nat) (l : List α) : l.take (min n l.length) = l.take n := by
  rcases Nat.le_total n l.length with h | h
  · rw [Nat.min_eq_left h]
  · rw [Nat.min_eq_right h, List.take_of_length_le (Nat.le_refl _), List.take_of_length_le h]
end Go.Proofs.YtoobjjpheegmdaaGreat.E4.Md
