/-
  Ip, Pe15, En13.
-/
import Derived.Test.YtoobjjpheegmdaaGreatJ09
import Derived.Orders
import Derived.WalkKit
import Derived.Shelf.Small.Wraps
import Derived.Laws.Cover1
import Derived.Deep.QuietTactic
import Derived.BigQuiet
import Derived.Deep.RegionWith
import Derived.Outline
import Derived.Lib.BitFns
import Derived.Deep.Slices
import Derived.Deep.Strs
import Derived.Lib.SmallJoins
import Derived.ProofKit
import Derived.Test.YtoobjjpheegmdaaGreatJ12
import Derived.Test.YtoobjjpheegmdaaGreatJ06
import Derived.Test.YtoobjjpheegmdaaGreatJ05
namespace Go.Proofs.YtoobjjpheegmdaaGreat.E4
open Go
section
variable {P : Program} {ops : Array Oper} {Q : Exit → Act → World → Prop}
end
end Go.Proofs.YtoobjjpheegmdaaGreat.E4
namespace Go.Proofs.YtoobjjpheegmdaaGreat.E4
open Go.RowKit Go
end Go.Proofs.YtoobjjpheegmdaaGreat.E4
namespace Go.Proofs.YtoobjjpheegmdaaGreat.E4
open Go.RowKit Go
set_option maxHeartbeats 1000000 in
theorem int_put {G : Nat → Prop} (x : Int) (h0 : -9223372036854775808 ≤ x) (h1 : x ≤ 9223372036854775807) (sv : Value) (l : List UInt8) (w : World) (hown : By G w sv l) (hlim : l.length ≤ 70368744177664) :
    Calls Tryz.prog 79 #[sv, .int .i64 x] w (PutPost sv (l ++ Lib.uvarint (Lib.zigzag x)) w) := by
  have hU := uint_put (Lib.zigzag x) (Lib.zigzag_lt h0 h1) sv l w hown hlim
  by_cases hneg : x < 0
  · rw [← Lib.zigzag_neg h0 hneg] at hU
    have HU := Lib.hid hU
    clear hU hown
    go_enter Tryz.func79, Tryz.ntmps79
    go_wp2_with (go_at_call 94; refine HU.out.mono ?_; rintro e w1 ⟨v', rfl, ho, hb⟩)
    go_ret
    exact ⟨v', rfl, ho, hb⟩
  · rw [Lib.zigzag_nonneg (by omega)] at hU
    have HU := Lib.hid hU
    clear hU hown
    go_enter Tryz.func79, Tryz.ntmps79
    go_wp2_with (go_at_call 94; refine HU.out.mono ?_; rintro e w1 ⟨v', rfl, ho, hb⟩)
    go_ret
    exact ⟨v', rfl, ho, hb⟩
end Go.Proofs.YtoobjjpheegmdaaGreat.E4
namespace Go.Proofs.YtoobjjpheegmdaaGreat.E4
open Go.RowKit Go
end Go.Proofs.YtoobjjpheegmdaaGreat.E4
namespace Go.Proofs.YtoobjjpheegmdaaGreat.E4
open Go.RowKit Go
end Go.Proofs.YtoobjjpheegmdaaGreat.E4
namespace Go.Proofs.YtoobjjpheegmdaaGreat.E4
open Go.RowKit Go
end Go.Proofs.YtoobjjpheegmdaaGreat.E4
namespace Go.Proofs.YtoobjjpheegmdaaGreat.E4
open Go.RowKit Go
variable {H : Type} {enc : TypeId × Value → H}
end Go.Proofs.YtoobjjpheegmdaaGreat.E4
namespace Go.Proofs.YtoobjjpheegmdaaGreat.E4
open Go.RowKit Go
end Go.Proofs.YtoobjjpheegmdaaGreat.E4
namespace Go.Proofs.YtoobjjpheegmdaaGreat.E4
open Go.RowKit Go
theorem unzig_zig (k : Int) : Lib.unzigzag (Lib.zigzag k) = k := by
  unfold Lib.zigzag Lib.unzigzag
  by_cases h : 0 ≤ k
  · rw [if_pos h, if_pos (by omega)]; omega
  · rw [if_neg h, if_neg (by omega)]; omega
theorem Ent.bytes_len {e : Ent} (h : e.Mod) : e.bytes.length ≤ 201000000 := by
  have a := labsB_len h.labs
  have b := Lib.uvarint_length64 (Lib.zigzag_lt h.lo h.hi)
  have c := textB_len e.line h.line
  have := h.labs.1
  have := h.line
  simp only [Ent.bytes, List.length_append]
  omega
theorem bytes_inj {x y : Ent} (hx : x.Mod) (hy : y.Mod) {r s : List UInt8} (h : x.bytes ++ r = y.bytes ++ s) : x = y ∧ r = s := by
  unfold Ent.bytes at h
  simp only [List.append_assoc] at h
  obtain ⟨h1, h2⟩ := uv_inj (Lib.zigzag_lt hx.lo hx.hi) (Lib.zigzag_lt hy.lo hy.hi) h
  obtain ⟨h3, h4⟩ := labsB_inj hx.labs hy.labs h2
  have a := hx.line
  have b := hy.line
  obtain ⟨h5, h6⟩ := textB_inj (by rw [dlen]; omega) (by rw [dlen]; omega) h4
  have h7 := congrArg Lib.unzigzag h1
  rw [unzig_zig, unzig_zig] at h7
  obtain ⟨xt, xl, xs⟩ := x
  obtain ⟨yt, yl, ys⟩ := y
  simp only [] at h3 h5 h7
  have e5 : xs = ys := data_inj h5
  subst h3 h7 e5
  exact ⟨rfl, h6⟩
def bytesF : List Ent → List UInt8
  | [] => []
  | x :: r => x.bytes ++ bytesF r
theorem bytesF_append : ∀ l m : List Ent, bytesF (l ++ m) = bytesF l ++ bytesF m
  | [], _ => rfl
  | x :: l, m => by simp [bytesF, bytesF_append l m]
theorem labsF_small : ∀ ls : List Lab, (∀ x ∈ ls, x.n.size ≤ 200 ∧ x.v.size ≤ 200) → (labsF ls).length ≤ 420 * ls.length
  | [], _ => by simp [labsF]
  | x :: r, h => by
    have h1 := labsF_small r (fun y hy => h y (by simp [hy]))
    have h2 := h x (by simp)
    have h3 := textB_len x.n (by omega)
    have h4 := textB_len x.v (by omega)
    simp only [labsF, labB, List.length_append, List.length_cons]
    omega
theorem small_len {x : Ent} (ht : -9223372036854775808 ≤ x.tm ∧ x.tm ≤ 9223372036854775807) (hb : x.big = false) : x.bytes.length ≤ 10000 := by
  obtain ⟨_, h1, h2, h3⟩ := mod_of ht hb
  have h4 := labsF_small x.labs h3
  have h5 := textB_len x.line (by omega)
  have h6 := Lib.uvarint_length64 (Lib.zigzag_lt ht.1 ht.2)
  have h7 := Lib.uvarint_length64 (x := x.labs.length) (by omega)
  unfold Ent.bytes labsB
  simp only [List.length_append]
  omega
theorem bytesF_len : ∀ l : List Ent, (∀ x ∈ l, x.bytes.length ≤ 10000) → (bytesF l).length ≤ 10000 * l.length
  | [], _ => by simp [bytesF]
  | x :: r, h => by
    have h1 := bytesF_len r (fun y hy => h y (by simp [hy]))
    have h2 := h x (by simp)
    simp only [bytesF, List.length_append, List.length_cons]
    omega
theorem ok_small {x : Ent} (h : x.ok = true) : x.labs.length ≤ 4 ∧ (∀ y ∈ x.labs, y.n.size ≤ 20 ∧ y.v.size ≤ 20) ∧ x.line.size ≤ 200 := by
  unfold Ent.ok labsOK lineOK at h
  simp only [Bool.and_eq_true, decide_eq_true_eq] at h
  obtain ⟨⟨_, h4, hall⟩, hl, _⟩ := h
  refine ⟨h4, fun y hy => ?_, hl⟩
  obtain ⟨i, hi, rfl⟩ := List.getElem_of_mem hy
  have h5 := List.all_eq_true.1 hall i (List.mem_range.2 hi)
  unfold labOK MW.name at h5
  have e : x.labs.getD i noLab = x.labs[i] := by simp [List.getD, hi]
  rw [e] at h5
  simp only [Bool.and_eq_true, decide_eq_true_eq] at h5
  rw [dlen] at h5
  exact ⟨h5.1.1.1.1.2, h5.1.2⟩
theorem not_at_nil (k : Nat) : ¬ At (.slice none 0 0) k := fun ⟨_, _, e⟩ => by cases e
theorem lay_nil {w w' : World} (h : Keep (At (.slice none 0 0)) w w') : Lay w w' := h.into fun k _ hat => (not_at_nil k hat).elim
theorem put_any {G H : Nat → Prop} {w : World} {lv sv : Value} {e : Ent} {l : List UInt8} (hs : By H w sv l) (h : LabsAt G w lv e.labs) (hG : ∀ b, G b → b < w.heap.size → ¬ At sv b) (hm : e.Mod) (hl : l.length ≤ 500000000) :
    Calls Tryz.prog 71 #[sv, e.val lv] w (PutPost sv (l ++ e.bytes) w) := by
  obtain ⟨a, ca, rfl, _⟩ := id h
  have HL0 : Hid (Keep (At sv) w (w.alloc (.cells #[.int .i64 e.tm, .slice a e.labs.length ca, .string e.line] 32))) := Lib.hid ((Keep.refl _ _).alloc _)
  have HAT := Lib.hid (fun b hb => (hs.at (b := b) hb).2)
  have hs0 := hs.alloc (.cells #[.int .i64 e.tm, .slice a e.labs.length ca, .string e.line] 32)
  have HI := Lib.hid (int_put e.tm hm.lo hm.hi sv l _ hs0 (by omega))
  have HH := Lib.hid ((h.mono (fun b hb hlt => (⟨hb, hlt⟩ : G b ∧ b < w.heap.size))).alloc (.cells #[.int .i64 e.tm, .slice a e.labs.length ca, .string e.line] 32))
  have HM := Lib.hid hm
  have HG := Lib.hid hG
  have hsa : (w.alloc (.cells #[.int .i64 e.tm, .slice a e.labs.length ca, .string e.line] 32)).heap.size = w.heap.size + 1 := by simp
  have c1 : (w.alloc (.cells #[.int .i64 e.tm, .slice a e.labs.length ca, .string e.line] 32)).cell? ⟨w.heap.size, 1, none⟩ = some (.slice a e.labs.length ca) := by go_simp
  have c2 : (w.alloc (.cells #[.int .i64 e.tm, .slice a e.labs.length ca, .string e.line] 32)).cell? ⟨w.heap.size, 2, none⟩ = some (.string e.line) := by go_simp
  have HC := Lib.hid (And.intro c1 c2)
  have HSA := Lib.hid hsa
  have hi1 := Lib.uvarint_length64 (Lib.zigzag_lt hm.lo hm.hi)
  have hi2 := labsB_len hm.labs
  have hi3 := hm.labs.1
  have hi4 := hm.line
  have hbox : ∀ w', Keep (At sv) (w.alloc (.cells #[.int .i64 e.tm, .slice a e.labs.length ca, .string e.line] 32)) w' → w'.cell? ⟨w.heap.size, 1, none⟩ = some (.slice a e.labs.length ca) ∧ w'.cell? ⟨w.heap.size, 2, none⟩ = some (.string e.line) := fun w' hk => by
    have hb := hk.block w.heap.size (by rw [HSA.out]; omega) (fun ha => by have := HAT.out _ ha; omega)
    exact ⟨(World.cell?_of_block (a := ⟨w.heap.size, 1, none⟩) hb).trans HC.out.1, (World.cell?_of_block (a := ⟨w.heap.size, 2, none⟩) hb).trans HC.out.2⟩
  have HBOX := Lib.hid hbox
  unfold Ent.val
  clear h hs hs0 hm hG c1 c2 hsa hbox
  go_enter Tryz.func71, Tryz.ntmps71
  go_wp2_with fail
  refine HI.out.mono ?_
  rintro x w1 ⟨v1, rfl, hs1, hk1⟩
  obtain ⟨k1, k2⟩ := HBOX.out w1 hk1
  have hlab1 := HH.out.keep hk1 (fun b hg hlt ha => HG.out b hg.1 hg.2 ha)
  have HP := Lib.hid (putLabels_any hs1 hlab1 (fun b hg _ ha => by
    rcases (hs1.at ha).1 with h | h
    · exact HG.out b hg.1 hg.2 h
    · rw [HSA.out] at h; have := hg.2; omega) HM.out.labs (by rw [List.length_append]; omega))
  have HS1 := Lib.hid hs1
  have HK1 := Lib.hid hk1
  clear hs1 hk1 hlab1 HI k2
  go_wp2_with fail
  refine HP.out.mono ?_
  rintro x w2 hp2
  obtain ⟨v2, he2, hs2, hk2⟩ := PutPost.then HS1.out HK1.out (Keep.refl _ _) hp2
  subst he2
  obtain ⟨_, k2⟩ := HBOX.out w2 hk2
  have HT := Lib.hid (text_put e.line (by omega) _ _ _ hs2 (by simp only [List.length_append]; omega))
  have HS2 := Lib.hid hs2
  have HK2 := Lib.hid hk2
  clear hs2 hk2 hp2 HP k1
  go_wp2_with fail
  refine HT.out.mono ?_
  rintro x w3 hp3
  obtain ⟨v3, he3, hs3, hk3⟩ := PutPost.base (PutPost.then HS2.out HK2.out (Keep.refl _ _) hp3) HL0.out
  subst he3
  have HS3 := Lib.hid hs3
  have HK3 := Lib.hid hk3
  clear hs3 hk3 hp3 HT
  go_wp2_with fail
  go_ret
  refine ⟨v3, rfl, ?_, HK3.out⟩
  have := HS3.out
  unfold Ent.bytes
  simpa using this
end Go.Proofs.YtoobjjpheegmdaaGreat.E4
namespace Go.Proofs.YtoobjjpheegmdaaGreat.E4
open Go.RowKit Go
open Go.Sort (grow)
def ints (l : List Nat) : List Value := l.map fun n : Nat => Value.int .i64 (n : Int)
theorem ints_len (l : List Nat) : (ints l).length = l.length := List.length_map ..
theorem ints_snoc (l : List Nat) (n : Nat) : ints (l ++ [n]) = ints l ++ [.int .i64 (n : Int)] := by simp [ints]
theorem ints_get (l : List Nat) (i : Nat) (h : i < l.length) : (ints l)[i]? = some (.int .i64 (l[i] : Int)) := by simp [ints, h]
theorem infoI : (Tryz.prog.info? 3).map (fun i => (i.zero, i.size, i.bytes)) = some (some (.int .i64 0), 1, 8) := by kernel_rfl
theorem elemI : ∃ i z, Elem Tryz.prog 22 3 i z 1 8 := by
  obtain ⟨i, hi, hz, hs, hb⟩ := info_parts infoI
  exact ⟨i, _, Tryz.underlying22, hi, hz, hs, hb, by kernel_rfl⟩
def atK (f : ByteArray → Option Value) (s : ByteArray) : Value := (f s).getD (.slice none 0 0)
def PlAt (G : Nat → Prop) (w : World) (mb n : Nat) (F : ByteArray → List Nat) : Prop :=
  ∃ f, MapAt Tryz.prog 9 w mb n f ∧ (∀ s, Rk 1 G w (atK f s) (F s).length (ints (F s))) ∧ ∀ s t, s ≠ t → ∀ k, At (atK f s) k → ¬ At (atK f t) k
theorem PlAt.carry {G : Nat → Prop} {w w' : World} {mb n : Nat} {F : ByteArray → List Nat} (h : PlAt G w mb n F) (hs : w.heap.size ≤ w'.heap.size) (hm : w'.heap[mb]? = w.heap[mb]?) (hb : ∀ k, G k → k < w.heap.size → w'.heap[k]? = w.heap[k]?) : PlAt G w' mb n F := by
  obtain ⟨f, h1, h2, h3⟩ := h
  exact ⟨f, h1.carry hm, fun s => (h2 s).carry hs fun k hk _ hlt => hb k hk hlt, h3⟩
theorem PlAt.mono {G H : Nat → Prop} {w : World} {mb n m : Nat} {F : ByteArray → List Nat} (h : PlAt G w mb n F) (hG : ∀ k, G k → k < w.heap.size → H k) (hn : n ≤ m) : PlAt H w mb m F := by
  obtain ⟨f, h1, h2, h3⟩ := h
  exact ⟨f, h1.mono hn, fun s => (h2 s).mono fun k hk ha => hG k hk ((h2 s).at ha).2, h3⟩
theorem PlAt.lt {G : Nat → Prop} {w : World} {mb n : Nat} {F : ByteArray → List Nat} (h : PlAt G w mb n F) : mb < w.heap.size := by
  obtain ⟨f, h1, _⟩ := h
  exact h1.lt
theorem PlAt.empty {G : Nat → Prop} {w : World} {mb n : Nat} (h : MapAt Tryz.prog 9 w mb n (fun _ => none)) : PlAt G w mb n (fun _ => []) :=
  ⟨fun _ => none, h, fun _ => Rk.nil 1 G w, fun _ _ _ k h => by obtain ⟨_, _, h⟩ := h; simp [atK] at h⟩
def posF (es : List Ent) (s : ByteArray) : List Nat := (List.range es.length).filter fun i => (es[i]?).any fun e => H3.hasB e.line s
theorem posF_snoc (es : List Ent) (e : Ent) (s : ByteArray) : posF (es ++ [e]) s = posF es s ++ if H3.hasB e.line s then [es.length] else [] := by
  unfold posF
  rw [List.length_append, List.length_singleton, List.range_succ, List.filter_append]
  congr 1
  · refine List.filter_congr fun i hi => ?_
    rw [List.getElem?_append_left (List.mem_range.1 hi)]
  · simp only [List.filter_cons, List.filter_nil]
    rw [List.getElem?_append_right (Nat.le_refl _), Nat.sub_self]
    simp
theorem mem_posF {es : List Ent} {s : ByteArray} {p : Nat} : p ∈ posF es s ↔ ∃ h : p < es.length, H3.hasB es[p].line s = true := by
  unfold posF
  rw [List.mem_filter, List.mem_range]
  constructor
  · rintro ⟨h, h2⟩
    rw [List.getElem?_eq_getElem h] at h2
    exact ⟨h, h2⟩
  · rintro ⟨h, h2⟩
    rw [List.getElem?_eq_getElem h]
    exact ⟨h, h2⟩
theorem posF_len (es : List Ent) (s : ByteArray) : (posF es s).length ≤ es.length := Nat.le_trans (List.length_filter_le _ _) (by rw [List.length_range]; exact Nat.le_refl _)
def Ent.key (e : Ent) : ByteArray := ⟨e.bytes.toArray⟩
def knownF (es : List Ent) (s : ByteArray) : Option Value := if (es.any fun x => decide (x.key = s)) = true then some (.agg #[]) else none
structure EngC3 (κ : Nat → Nat) (w : World) (B gb kb pb m n : Nat) (v : Value) (R : List (Value × Ent)) : Prop where
  c : Bl w gb 96 #[v, .map (some kb), .map (some pb)]
  e : Rk 3 (fun b => B ≤ b ∧ κ b = 6) w v R.length (flatR R)
  l : RawL (fun b => B ≤ b ∧ κ b = 5) w R
  k : MapAt Tryz.prog 9 w kb m (knownF (R.map Prod.snd))
  p : PlAt (fun b => B ≤ b ∧ κ b = 4) w pb n (posF (R.map Prod.snd))
  g : B ≤ gb ∧ κ gb = 1
  kk : B ≤ kb ∧ κ kb = 2
  kp : B ≤ pb ∧ κ pb = 3
def EngAt3 (w : World) (B gb : Nat) (es : List Ent) : Prop :=
  ∃ κ kb pb m n v R, EngC3 κ w B gb kb pb m n v R ∧ R.map Prod.snd = es ∧ m ≤ es.length ∧ n ≤ 1000 * es.length
def EngK3 (κ : Nat → Nat) (w : World) (B gb : Nat) (es : List Ent) : Prop :=
  ∃ kb pb m n v R, EngC3 κ w B gb kb pb m n v R ∧ R.map Prod.snd = es ∧ m ≤ es.length ∧ n ≤ 1000 * es.length
theorem EngK3.at {κ : Nat → Nat} {w : World} {B gb : Nat} {es : List Ent} (h : EngK3 κ w B gb es) : EngAt3 w B gb es := ⟨κ, h⟩
theorem EngK3.carry {κ : Nat → Nat} {w w' : World} {B gb : Nat} {es : List Ent} (h : EngK3 κ w B gb es) (hs : w.heap.size ≤ w'.heap.size) (hb : ∀ b, b < w.heap.size → κ b ≠ 0 → w'.heap[b]? = w.heap[b]?) : EngK3 κ w' B gb es := by
  obtain ⟨kb, pb, m, n, v, R, h, hr⟩ := h
  exact ⟨kb, pb, m, n, v, R, ⟨(hb _ h.c.lt (by rw [h.g.2]; decide)).trans h.c, h.e.carry hs fun b hg _ hlt => hb b hlt (by rw [hg.2]; decide), fun x hx => (h.l x hx).carry hs fun b hg hlt => hb b hlt (by rw [hg.2]; decide),
    h.k.carry (hb _ h.k.lt (by rw [h.kk.2]; decide)), h.p.carry hs (hb _ h.p.lt (by rw [h.kp.2]; decide)) fun b hg hlt => hb b hlt (by rw [hg.2]; decide), h.g, h.kk, h.kp⟩, hr⟩
theorem EngK3.conv {κ κ' : Nat → Nat} {w : World} {B B' gb : Nat} {es : List Ent} (h : EngK3 κ w B gb es) (hB : B' ≤ B) (hk : ∀ b, B ≤ b → b < w.heap.size → κ' b = κ b) : EngK3 κ' w B' gb es := by
  obtain ⟨kb, pb, m, n, v, R, h, hr⟩ := h
  refine ⟨kb, pb, m, n, v, R, ⟨h.c, h.e.mono fun b hg ha => ⟨Nat.le_trans hB hg.1, (hk b hg.1 (h.e.at ha).2).trans hg.2⟩, h.l.mono fun b hg hlt => ⟨Nat.le_trans hB hg.1, (hk b hg.1 hlt).trans hg.2⟩, h.k,
    h.p.mono (fun b hg hlt => ⟨Nat.le_trans hB hg.1, (hk b hg.1 hlt).trans hg.2⟩) (Nat.le_refl _), ⟨Nat.le_trans hB h.g.1, (hk _ h.g.1 h.c.lt).trans h.g.2⟩, ⟨Nat.le_trans hB h.kk.1, (hk _ h.kk.1 h.k.lt).trans h.kk.2⟩, ⟨Nat.le_trans hB h.kp.1, (hk _ h.kp.1 h.p.lt).trans h.kp.2⟩⟩, hr⟩
theorem EngAt3.foot {w : World} {B gb : Nat} {es : List Ent} (h : EngAt3 w B gb es) : ∃ κ, EngK3 κ w 0 gb es ∧ ∀ b, κ b ≠ 0 → B ≤ b ∧ b < w.heap.size := by
  obtain ⟨κ, h⟩ := h
  refine ⟨fun b => if B ≤ b ∧ b < w.heap.size then κ b else 0, EngK3.conv (B := B) (κ := κ) h (Nat.zero_le _) fun b h1 h2 => if_pos ⟨h1, h2⟩, fun b hb => ?_⟩
  by_cases h1 : B ≤ b ∧ b < w.heap.size
  · exact h1
  · exact absurd (if_neg h1) hb
theorem EngC3.carry {κ : Nat → Nat} {w w' : World} {B gb kb pb m n : Nat} {v : Value} {R : List (Value × Ent)} (h : EngC3 κ w B gb kb pb m n v R) (hs : w.heap.size ≤ w'.heap.size) (hb : ∀ b, b < w.heap.size → w'.heap[b]? = w.heap[b]?) : EngC3 κ w' B gb kb pb m n v R :=
  ⟨(hb _ h.c.lt).trans h.c, h.e.carry hs fun b _ _ hlt => hb b hlt, fun x hx => (h.l x hx).carry hs fun b _ hlt => hb b hlt, h.k.carry (hb _ h.k.lt), h.p.carry hs (hb _ h.p.lt) fun b _ hlt => hb b hlt, h.g, h.kk, h.kp⟩
theorem EngC3.below {κ : Nat → Nat} {w w' : World} {B gb kb pb m n : Nat} {v : Value} {R : List (Value × Ent)} (h : EngC3 κ w B gb kb pb m n v R) (hb : Below w.heap.size w w') : EngC3 κ w' B gb kb pb m n v R := h.carry hb.size fun b hlt => hb.block b hlt
theorem EngK3.below {κ : Nat → Nat} {w w' : World} {B gb : Nat} {es : List Ent} (h : EngK3 κ w B gb es) (hb : Below w.heap.size w w') : EngK3 κ w' B gb es := h.carry hb.size fun b hlt _ => hb.block b hlt
theorem EngAt3.below {w w' : World} {B gb : Nat} {es : List Ent} (h : EngAt3 w B gb es) (hb : Below w.heap.size w w') : EngAt3 w' B gb es := by
  obtain ⟨κ, kb, pb, m, n, v, R, h, hr⟩ := h
  exact ⟨κ, kb, pb, m, n, v, R, h.below hb, hr⟩
theorem key_inj {x y : Ent} (hx : x.Mod) (hy : y.Mod) (h : x.key = y.key) : x = y := by
  have h1 : x.bytes = y.bytes := by
    have := congrArg (fun b : ByteArray => b.data.toList) h
    simpa [Ent.key] using this
  have h2 : x.bytes ++ [] = y.bytes ++ [] := by rw [h1]
  exact (bytes_inj hx hy h2).1
theorem known_is {es : List Ent} {e : Ent} (he : e.Mod) (hes : ∀ x ∈ es, x.Mod) : (knownF es e.key).isSome = hasE es e := by
  have h : (es.any fun x => decide (x.key = e.key)) = hasE es e := by
    rw [Bool.eq_iff_iff, hasE_iff, List.any_eq_true]
    constructor
    · rintro ⟨x, hx, hk⟩
      rw [← key_inj (hes x hx) he (of_decide_eq_true hk)]
      exact hx
    · exact fun h => ⟨e, h, decide_eq_true rfl⟩
  unfold knownF
  rw [h]
  cases hasE es e <;> rfl
theorem known_val (es : List Ent) (s : ByteArray) : (knownF es s).getD (.agg #[]) = .agg #[] := by
  unfold knownF
  split <;> rfl
theorem knownF_snoc (es : List Ent) (e : Ent) : (fun x => if x = e.key then some (.agg #[]) else knownF es x) = knownF (es ++ [e]) := by
  funext x
  unfold knownF
  rw [List.any_append]
  simp only [List.any_cons, List.any_nil, Bool.or_false]
  by_cases h : x = e.key
  · rw [if_pos h, if_pos (by rw [h]; simp)]
  · rw [if_neg h, decide_eq_false (fun h1 => h h1.symm), Bool.or_false]
end Go.Proofs.YtoobjjpheegmdaaGreat.E4
