/-
  Ge15.
-/
import Derived.Test.YtoobjjpheegmdaaGreatJ29
import Derived.Test.YtoobjjpheegmdaaGreatJ13
import Derived.Deep.RegionWith
import Derived.Deep.QuietTactic
import Derived.BigQuiet
import Derived.Deep.DeepCutAuto
namespace Go.Proofs.YtoobjjpheegmdaaGreat.E4
open Go.RowKit Go
inductive RLs (l0 : List UInt8) (b0 : Bool) : List Lab → List UInt8 → Bool → Prop
  | nil : RLs l0 b0 [] l0 b0
  | snoc {ls : List Lab} {l : List UInt8} {b : Bool} {x : Lab} {l1 : List UInt8} {b1 : Bool} {l2 : List UInt8} {b2 : Bool} (h : RLs l0 b0 ls l b) (h1 : RT 20 l b x.n.data.toList l1 b1) (h2 : RT 20 l1 b1 x.v.data.toList l2 b2) : RLs l0 b0 (ls ++ [x]) l2 b2
structure RE (l : List UInt8) (bad : Bool) (x : Ent) (l' : List UInt8) (bad' : Bool) : Prop where
  ex : ∃ n l1 b1 l2 b2 l3 b3, RU 18446744073709551615 l bad n l1 b1 ∧ x.tm = Lib.unzigzag n ∧ RU 4 l1 b1 x.labs.length l2 b2 ∧ RLs l2 b2 x.labs l3 b3 ∧ RT 200 l3 b3 x.line.data.toList l' bad'
theorem RU.le {most : Nat} {l : List UInt8} {bad : Bool} {n : Nat} {l' : List UInt8} {bad' : Bool} (h : RU most l bad n l' bad') : n ≤ most := by
  cases h with
  | good l0 c r hn hm => exact hm
  | none h => exact Nat.zero_le _
  | bad => exact Nat.zero_le _
theorem rls_put {r : List UInt8} {l0 : List UInt8} {b0 : Bool} {ls : List Lab} {l : List UInt8} {b : Bool} (h : RLs l0 b0 ls l b) : ∀ {ms : List Lab}, (∀ x ∈ ms, x.n.size ≤ 20 ∧ x.v.size ≤ 20) → l0 = labsF ms ++ r → b0 = false → ls.length ≤ ms.length → ls = ms.take ls.length ∧ l = labsF (ms.drop ls.length) ++ r ∧ b = false := by
  induction h with
  | nil => intro ms hm h0 hb _; exact ⟨by simp, by simpa using h0, hb⟩
  | @snoc ls l b x l1 b1 l2 b2 h h1 h2 ih =>
    intro ms hm h0 hb hl
    simp at hl
    obtain ⟨e1, e2, e3⟩ := ih hm h0 hb (by omega)
    have hlt : ls.length < ms.length := by omega
    subst e3
    have hmk := hm ms[ls.length] (List.getElem_mem hlt)
    rw [List.drop_eq_getElem_cons hlt, labsF, labB, List.append_assoc, List.append_assoc] at e2
    obtain ⟨f1, f2, rfl⟩ := rt_put (by rw [dlen]; omega) (by rw [dlen]; omega) e2 h1
    obtain ⟨g1, g2, rfl⟩ := rt_put (by rw [dlen]; omega) (by rw [dlen]; omega) f2 h2
    have ex : x = ms[ls.length] := by
      generalize ms[ls.length] = y at f1 g1
      obtain ⟨xn, xv⟩ := x
      obtain ⟨yn, yv⟩ := y
      have p1 : xn = yn := data_inj f1
      have p2 : xv = yv := data_inj g1
      subst p1 p2
      rfl
    refine ⟨?_, ?_, rfl⟩
    · rw [List.length_append, List.length_singleton, List.take_succ_eq_append_getElem hlt, ← e1, ← ex]
    · rw [g2, List.length_append, List.length_singleton]
theorem re_put {x : Ent} {r l : List UInt8} (h4 : x.labs.length ≤ 4) (hs : ∀ y ∈ x.labs, y.n.size ≤ 20 ∧ y.v.size ≤ 20) (hl : x.line.size ≤ 200) (ht : -9223372036854775808 ≤ x.tm ∧ x.tm ≤ 9223372036854775807) (e : l = x.bytes ++ r) {y : Ent} {l' : List UInt8} {bad' : Bool} (h : RE l false y l' bad') : y = x ∧ l' = r ∧ bad' = false := by
  obtain ⟨n, a1, c1, a2, c2, a3, c3, h1, h2, h3, h4', h5⟩ := h.ex
  unfold Ent.bytes labsB at e
  simp only [List.append_assoc] at e
  obtain ⟨rfl, e1, rfl⟩ := ru_put (Lib.zigzag_lt ht.1 ht.2) (by have := Lib.zigzag_lt ht.1 ht.2; omega) e h1
  obtain ⟨e2, e3, rfl⟩ := ru_put (by omega) h4 e1 h3
  obtain ⟨e4, e5, rfl⟩ := rls_put h4' hs e3 rfl (by omega)
  rw [e2, List.take_length] at e4
  rw [e2, List.drop_length, labsF, List.nil_append] at e5
  obtain ⟨e6, e7, rfl⟩ := rt_put (by rw [dlen]; omega) (by rw [dlen]; omega) e5 h5
  rw [unzig_zig] at h2
  obtain ⟨yt, yl, ys⟩ := y
  obtain ⟨xt, xl, xs⟩ := x
  simp only [] at h2 e4 e6
  have e8 : ys = xs := data_inj e6
  subst h2 e4 e8
  exact ⟨rfl, e7, rfl⟩
theorem info55 : (Tryz.prog.info? 86).map (fun i => (i.zero, i.size, i.bytes)) = some (some (.agg #[.string ⟨#[]⟩, .string ⟨#[]⟩]), 2, 32) := by kernel_rfl
theorem elem55 : ∃ i z, Elem Tryz.prog 30 86 i z 2 32 := by
  obtain ⟨i, hi, hz, hs, hb⟩ := info_parts info55
  exact ⟨i, _, Tryz.underlying30, hi, hz, hs, hb, by kernel_rfl⟩
def flatL5 : List Lab → List Value
  | [] => []
  | x :: r => .string x.n :: .string x.v :: flatL5 r
theorem flatL_length : ∀ ls : List Lab, (flatL5 ls).length = ls.length * 2
  | [] => rfl
  | x :: r => by simp [flatL5, flatL_length r]; omega
theorem flatL_append : ∀ l m : List Lab, flatL5 (l ++ m) = flatL5 l ++ flatL5 m
  | [], _ => rfl
  | x :: l, m => by simp [flatL5, flatL_append l m]
theorem flatL_get5 : ∀ (ls : List Lab) (i : Nat) (h : i < ls.length), (flatL5 ls)[i * 2]? = some (.string ls[i].n) ∧ (flatL5 ls)[i * 2 + 1]? = some (.string ls[i].v)
  | x :: r, 0, _ => ⟨rfl, rfl⟩
  | x :: r, i + 1, h => by
    have := flatL_get5 r i (by simpa using h)
    rw [show (i + 1) * 2 = i * 2 + 1 + 1 by omega]
    simpa [flatL5] using this
theorem Rk.labs {G : Nat → Prop} {w : World} {v : Value} {ls : List Lab} (h : Rk 2 G w v ls.length (flatL5 ls)) : LabsAt G w v ls := by
  obtain ⟨_, ⟨rfl, h0⟩ | ⟨g, cap, rfl, hg, hlt, hlc, hm, hc, _⟩⟩ := h
  · obtain rfl := List.eq_nil_of_length_eq_zero h0
    exact LabsAt.nil _ _
  · refine ⟨_, cap, rfl, by unfold maxLen at hm; omega, .inr ⟨g, 0, rfl, hg, hlt, fun i hi => ?_⟩⟩
    have hk := flatL_get5 ls i hi
    rw [Nat.zero_add, hc _ (by rw [flatL_length]; omega), hc _ (by rw [flatL_length]; omega)]
    exact hk
theorem Chg.keep {g : Nat} {w W w' : World} {sv : Value} (h : Chg g w W) (k : Keep (At sv) W w') (ha : ∀ b, At sv b → w.heap.size ≤ b) : Chg g w w' :=
  ⟨k.os.trans h.os, k.tape.trans h.tape, k.output.trans h.output, Nat.le_trans h.size k.size, fun b hb hn => (k.block b (Nat.lt_of_lt_of_le hb h.size) (fun hv => by have := ha b hv; omega)).trans (h.block b hb hn)⟩
theorem Chg.set {g : Nat} {w W : World} (h : Chg g w W) {p : Addr} (hp : w.heap.size ≤ p.block) (u : Value) : Chg g w (W.setCell p u) :=
  ⟨h.os, h.tape, h.output, by simpa [World.setCell] using h.size, fun b hb hn => (Below.heap_setCell W p u b (by omega)).trans (h.block b hb hn)⟩
set_option maxHeartbeats 8000000 in
set_option maxRecDepth 100000 in
theorem getLabels_any (g : Nat) (l : List UInt8) (bad : Bool) (w : World) (h : Rd w g l bad) :
    Calls Tryz.prog 191 #[.pointer (some ⟨g, 0, none⟩)] w fun e w' => ∃ (lv : Value) (ls : List Lab) (l1 : List UInt8) (b1 : Bool) (l' : List UInt8) (b' : Bool), e = .returned lv ∧ RU 4 l bad ls.length l1 b1 ∧ RLs l1 b1 ls l' b' ∧ Rd w' g l' b' ∧ Chg g w w' ∧ LabsAt (fun b => w.heap.size ≤ b) w' lv ls := by
  obtain ⟨i55, z55, E55⟩ := elem55
  have hgs : g < w.heap.size := h.lt
  have HU := Lib.hid (uint_rd 4 g l bad w h)
  clear h
  go_enter Tryz.func191, Tryz.ntmps191
  go_wp2_with fail
  refine HU.out.mono ?_
  rintro e w1 ⟨n, l1, b1, rfl, hru, hrd, hon⟩
  have hn4 := hru.le
  have HRU := Lib.hid hru
  have HC1 := Lib.hid hon.chg
  have HR1 := Lib.hid hrd
  clear hru hon hrd HU
  go_wp2_with fail
  go_loopw [7, 3] (fun vk vl wr => ∃ (ls : List Lab) (l2 : List UInt8) (b2 : Bool), vk = .int .u64 (ls.length : Nat) ∧ ls.length ≤ n ∧ Rk 2 (fun b => w.heap.size ≤ b) wr vl ls.length (flatL5 ls) ∧ RLs l1 b1 ls l2 b2 ∧ Rd wr g l2 b2 ∧ Chg g w wr) (fun vk _ _ => n - (intOf vk).toNat)
  case atStart => exact ⟨[], l1, b1, rfl, Nat.zero_le _, Rk.nil 2 _ _, .nil, HR1.out, HC1.out⟩
  case round =>
    obtain ⟨ls, l2, b2, rfl, hle, hrk, hrls, hrd, hchg⟩ := hrel
    have HRK := Lib.hid hrk
    have HRLS := Lib.hid hrls
    have HCH := Lib.hid hchg
    by_cases hlt : ls.length < n
    · have hgr : g < wr.heap.size := hrd.lt
      have hrd1 := hrd.alloc (.cells #[.string ⟨#[]⟩, .string ⟨#[]⟩] 86)
      have HT := Lib.hid (text_rd 20 g (by omega) l2 b2 _ hrd1 20 rfl)
      have hsr : w.heap.size ≤ wr.heap.size := hchg.size
      clear hrk hrls hchg hrd hrd1
      go_wp2_with fail
      refine HT.out.mono ?_
      rintro e w2 ⟨s0, l3, b3, rfl, ht0, hrd2, hon⟩
      have k0 : w2.cell? ⟨wr.heap.size, 0, none⟩ = some (.string ⟨#[]⟩) := (World.cell?_of_block (a := ⟨wr.heap.size, 0, none⟩) (hon.block _ (by show wr.heap.size ≠ g; omega))).trans (by go_simp)
      have k1 : w2.cell? ⟨wr.heap.size, 1, none⟩ = some (.string ⟨#[]⟩) := (World.cell?_of_block (a := ⟨wr.heap.size, 1, none⟩) (hon.block _ (by show wr.heap.size ≠ g; omega))).trans (by go_simp)
      have z0 : w2.frozen? ⟨wr.heap.size, 0, none⟩ = false := (World.frozen?_of_block (a := ⟨wr.heap.size, 0, none⟩) (hon.block _ (by show wr.heap.size ≠ g; omega))).trans (by go_simp)
      have z1 : w2.frozen? ⟨wr.heap.size, 1, none⟩ = false := (World.frozen?_of_block (a := ⟨wr.heap.size, 1, none⟩) (hon.block _ (by show wr.heap.size ≠ g; omega))).trans (by go_simp)
      have hrd3 : Rd (w2.setCell ⟨wr.heap.size, 0, none⟩ (.string s0)) g l3 b3 := hrd2.carry (Below.heap_setCell _ _ _ _ (by show g ≠ wr.heap.size; omega))
      have HT2 := Lib.hid (text_rd 20 g (by omega) l3 b3 _ hrd3 20 rfl)
      have HT0 := Lib.hid ht0
      have HON := Lib.hid hon
      clear ht0 hrd2 hon hrd3 HT
      go_wp2_with fail
      refine HT2.out.mono ?_
      rintro e w4 ⟨s1, l4, b4, rfl, ht1, hrd4, hon4⟩
      have c0 : w4.cell? ⟨wr.heap.size, 0, none⟩ = some (.string s0) := (World.cell?_of_block (a := ⟨wr.heap.size, 0, none⟩) (hon4.block _ (by show wr.heap.size ≠ g; omega))).trans (by go_simp)
      have c1 : w4.cell? ⟨wr.heap.size, 1, none⟩ = some (.string ⟨#[]⟩) := (World.cell?_of_block (a := ⟨wr.heap.size, 1, none⟩) (hon4.block _ (by show wr.heap.size ≠ g; omega))).trans (by go_simp)
      have y0 : w4.frozen? ⟨wr.heap.size, 0, none⟩ = false := (World.frozen?_of_block (a := ⟨wr.heap.size, 0, none⟩) (hon4.block _ (by show wr.heap.size ≠ g; omega))).trans (by go_simp)
      have y1 : w4.frozen? ⟨wr.heap.size, 1, none⟩ = false := (World.frozen?_of_block (a := ⟨wr.heap.size, 1, none⟩) (hon4.block _ (by show wr.heap.size ≠ g; omega))).trans (by go_simp)
      have HT1 := Lib.hid ht1
      have HRD4 := Lib.hid hrd4
      have HON4 := Lib.hid hon4
      have HCH4 : Hid (Chg g w (w4.setCell ⟨wr.heap.size, 1, none⟩ (.string s1))) := Lib.hid ((((HCH.out.trans (Chg.alloc g wr _)).trans HON.out.chg).set (p := ⟨wr.heap.size, 0, none⟩) hsr _ |>.trans hon4.chg).set (p := ⟨wr.heap.size, 1, none⟩) hsr _)
      have HCW : Hid (Chg g wr (w4.setCell ⟨wr.heap.size, 1, none⟩ (.string s1))) := Lib.hid ((((Chg.alloc g wr _).trans HON.out.chg).set (p := ⟨wr.heap.size, 0, none⟩) (Nat.le_refl _) _ |>.trans hon4.chg).set (p := ⟨wr.heap.size, 1, none⟩) (Nat.le_refl _) _)
      have HRK4 : Hid (Rk 2 (fun b => w.heap.size ≤ b) (w4.setCell ⟨wr.heap.size, 1, none⟩ (.string s1)) u3 ls.length (flatL5 ls)) := Lib.hid (HRK.out.carry HCW.out.size fun k hk _ hlt => HCW.out.block k hlt (by omega))
      have hna : ¬ At u3 g := fun ha => by have := (HRK.out.at ha).1; omega
      have HNA := Lib.hid hna
      have hsrc : Src Tryz.prog 2 30 (.slice (some ⟨w4.heap.size, 0, none⟩) 1 1) 1 (flatL5 [⟨s0, s1⟩]) ((w4.setCell ⟨wr.heap.size, 1, none⟩ (.string s1)).alloc (.cells #[.string s0, .string s1] 86)) := by
        have h1 := Rk.src Tryz.underlying30 (rk_new 2 (w4.setCell ⟨wr.heap.size, 1, none⟩ (.string s1)) 1 (flatL5 [⟨s0, s1⟩]) 86 rfl (by omega)) (fun u hu => by
          simp only [flatL5, List.mem_cons, List.not_mem_nil, or_false] at hu
          rcases hu with rfl | rfl <;> rfl)
        simpa [flatL5, World.setCell] using h1
      have HSRC := Lib.hid hsrc
      have hgw4 : g < w4.heap.size := hrd4.lt
      have hw4 : w.heap.size ≤ w4.heap.size := by
        have := HCH4.out.size
        simpa [World.setCell] using this
      clear ht1 hrd4 hon4 HT2 HON HON4 hna hsrc
      go_wp2_with (at_builtin; refine wpList_append_rk E55 _ rfl _ _ 30 rfl (G := fun b => w.heap.size ≤ b) rfl (HRK4.out.alloc _) ?c1 (.slice (some ⟨w4.heap.size, 0, none⟩) 1 1) 1 (flatL5 [⟨s0, s1⟩]) rfl HSRC.out ?c3 ?c4 ?_)
      case c1 => intro k hk; simp [World.setCell] at hk; omega
      case c3 => omega
      case c4 => omega
      intro v' w5 hrk5 hk5
      have HRK5 : Hid (Rk 2 (fun b => w.heap.size ≤ b) w5 v' (ls ++ [(⟨s0, s1⟩ : Lab)]).length (flatL5 (ls ++ [(⟨s0, s1⟩ : Lab)]))) := Lib.hid (by
        have := hrk5.mono (G' := fun b => w.heap.size ≤ b) fun b hb _ => hb.1
        rw [flatL_append, List.length_append]
        exact this)
      have HCH5 : Hid (Chg g w w5) := Lib.hid (Chg.keep (HCH4.out.trans (Chg.alloc g _ _)) hk5 fun b hb => (HRK.out.at hb).1)
      have HRD5 : Hid (Rd w5 g l4 b4) := Lib.hid (HRD4.out.carry (by
        refine (hk5.block g (by simp [World.setCell]; omega) HNA.out).trans ((Below.heap_alloc _ _ _ (by simpa [World.setCell] using hgw4)).trans (Below.heap_setCell _ _ _ _ (by show g ≠ wr.heap.size; omega)))))
      clear hrk5 hk5 c0 c1 y0 y1 k0 k1 z0 z1
      go_wp2
      go_roundw
      case rel => exact ⟨ls ++ [⟨s0, s1⟩], l4, b4, by simp only [List.length_append, List.length_singleton]; go_num, by simp; omega, HRK5.out, .snoc HRLS.out HT0.out HT1.out, HRD5.out, HCH5.out⟩
      case measure => simp [intOf]; omega
    · obtain rfl : ls.length = n := by omega
      have HRD := Lib.hid hrd
      clear hrd hrk hrls hchg
      go_wp2_with fail
      go_ret
      exact ⟨_, ls, l1, b1, l2, b2, rfl, HRU.out, HRLS.out, HRD.out, HCH.out, HRK.out.labs⟩
structure Bx (W : World) (k : Nat) (u0 u1 u2 : Value) : Prop where
  c0 : W.cell? ⟨k, 0, none⟩ = some u0
  c1 : W.cell? ⟨k, 1, none⟩ = some u1
  c2 : W.cell? ⟨k, 2, none⟩ = some u2
  f0 : W.frozen? ⟨k, 0, none⟩ = false
  f1 : W.frozen? ⟨k, 1, none⟩ = false
  f2 : W.frozen? ⟨k, 2, none⟩ = false
theorem Bx.carry {W W' : World} {k : Nat} {u0 u1 u2 : Value} (h : Bx W k u0 u1 u2) (hb : W'.heap[k]? = W.heap[k]?) : Bx W' k u0 u1 u2 :=
  ⟨(World.cell?_of_block (a := ⟨k, 0, none⟩) hb).trans h.c0, (World.cell?_of_block (a := ⟨k, 1, none⟩) hb).trans h.c1, (World.cell?_of_block (a := ⟨k, 2, none⟩) hb).trans h.c2,
   (World.frozen?_of_block (a := ⟨k, 0, none⟩) hb).trans h.f0, (World.frozen?_of_block (a := ⟨k, 1, none⟩) hb).trans h.f1, (World.frozen?_of_block (a := ⟨k, 2, none⟩) hb).trans h.f2⟩
theorem Bx.set0 {W : World} {k : Nat} {u0 u1 u2 : Value} (h : Bx W k u0 u1 u2) (u : Value) : Bx (W.setCell ⟨k, 0, none⟩ u) k u u1 u2 := by
  obtain ⟨c0, c1, c2, f0, f1, f2⟩ := h
  exact ⟨by go_simp, by go_simp, by go_simp, by go_simp, by go_simp, by go_simp⟩
theorem Bx.set1 {W : World} {k : Nat} {u0 u1 u2 : Value} (h : Bx W k u0 u1 u2) (u : Value) : Bx (W.setCell ⟨k, 1, none⟩ u) k u0 u u2 := by
  obtain ⟨c0, c1, c2, f0, f1, f2⟩ := h
  exact ⟨by go_simp, by go_simp, by go_simp, by go_simp, by go_simp, by go_simp⟩
theorem Bx.set2 {W : World} {k : Nat} {u0 u1 u2 : Value} (h : Bx W k u0 u1 u2) (u : Value) : Bx (W.setCell ⟨k, 2, none⟩ u) k u0 u1 u := by
  obtain ⟨c0, c1, c2, f0, f1, f2⟩ := h
  exact ⟨by go_simp, by go_simp, by go_simp, by go_simp, by go_simp, by go_simp⟩
def eZ : Ent := ⟨0, [], ⟨#[]⟩⟩
def GetPost (g : Nat) (l : List UInt8) (bad : Bool) (w : World) (e : Ending) (w' : World) : Prop :=
  ∃ (x : Ent) (lv : Value) (l' : List UInt8) (bad' : Bool), RE l bad x l' bad' ∧ (-9223372036854775808 ≤ x.tm ∧ x.tm ≤ 9223372036854775807) ∧ Rd w' g l' bad' ∧ Chg g w w' ∧ LabsAt (fun b => w.heap.size ≤ b) w' lv x.labs ∧
    e = .returned (.tuple (if (!bad' && x.ok) = true then #[x.val lv, .bool true] else #[eZ.val (.slice none 0 0), .bool false]))
set_option maxHeartbeats 8000000 in
set_option maxRecDepth 100000 in
theorem get_any (g : Nat) (l : List UInt8) (bad : Bool) (w : World) (h : Rd w g l bad) : Calls Tryz.prog 184 #[.pointer (some ⟨g, 0, none⟩)] w (GetPost g l bad w) := by
  have hgs : g < w.heap.size := h.lt
  have hc1 : Chg g w ((w.alloc (.cells #[.int .i64 0, .slice none 0 0, .string ⟨#[]⟩] 32)).alloc (.cells #[.int .i64 0, .slice none 0 0, .string ⟨#[]⟩] 32)) := (Chg.alloc g w _).trans (Chg.alloc g _ _)
  have hbr : Bx ((w.alloc (.cells #[.int .i64 0, .slice none 0 0, .string ⟨#[]⟩] 32)).alloc (.cells #[.int .i64 0, .slice none 0 0, .string ⟨#[]⟩] 32)) w.heap.size (.int .i64 0) (.slice none 0 0) (.string ⟨#[]⟩) := ⟨by go_simp, by go_simp, by go_simp, by go_simp, by go_simp, by go_simp⟩
  have hbe : Bx ((w.alloc (.cells #[.int .i64 0, .slice none 0 0, .string ⟨#[]⟩] 32)).alloc (.cells #[.int .i64 0, .slice none 0 0, .string ⟨#[]⟩] 32)) (w.heap.size + 1) (.int .i64 0) (.slice none 0 0) (.string ⟨#[]⟩) := ⟨by go_simp, by go_simp, by go_simp, by go_simp, by go_simp, by go_simp⟩
  have hrd1 : Rd ((w.alloc (.cells #[.int .i64 0, .slice none 0 0, .string ⟨#[]⟩] 32)).alloc (.cells #[.int .i64 0, .slice none 0 0, .string ⟨#[]⟩] 32)) g l bad := (h.alloc _).alloc _
  have hsz : w.heap.size + 2 ≤ ((w.alloc (.cells #[.int .i64 0, .slice none 0 0, .string ⟨#[]⟩] 32)).alloc (.cells #[.int .i64 0, .slice none 0 0, .string ⟨#[]⟩] 32)).heap.size := by simp
  have HBR := Lib.hid hbr
  have HBE := Lib.hid hbe
  have HC1 := Lib.hid hc1
  have HI := Lib.hid (int_rd g l bad _ hrd1)
  have HSZ := Lib.hid hsz
  clear h hc1 hbr hbe hrd1 hsz
  go_enter Tryz.func184, Tryz.ntmps184
  go_wp2_with fail
  generalize (w.alloc (.cells #[.int .i64 0, .slice none 0 0, .string ⟨#[]⟩] 32)).alloc (.cells #[.int .i64 0, .slice none 0 0, .string ⟨#[]⟩] 32) = w1 at HBR HBE HC1 HI HSZ ⊢
  refine HI.out.mono ?_
  rintro e w2 ⟨n, l1, b1, rfl, hru, hrd, hon⟩
  have hb2 := HBE.out.carry (hon.block (w.heap.size + 1) (by omega))
  have HBR2 := Lib.hid (HBR.out.carry (hon.block w.heap.size (by omega)))
  have HBE2 := Lib.hid hb2
  obtain ⟨x0, x1, x2, z0, z1, z2⟩ := hb2
  have HRU := Lib.hid hru
  have HC2 := Lib.hid (HC1.out.trans hon.chg)
  have HSZ2 : Hid (w.heap.size + 2 ≤ w2.heap.size) := Lib.hid (by have := HSZ.out; have := hon.size; omega)
  have HRD2 := Lib.hid hrd
  have HG := Lib.hid (getLabels_any g l1 b1 (w2.setCell ⟨w.heap.size + 1, 0, none⟩ (.int .i64 (Lib.unzigzag n))) (hrd.carry (Below.heap_setCell _ _ _ _ (by show g ≠ w.heap.size + 1; omega))))
  clear hru hrd hon HI
  go_wp2_with fail
  have HBR3 := Lib.hid (HBR2.out.carry (W' := w2.setCell ⟨w.heap.size + 1, 0, none⟩ (.int .i64 (Lib.unzigzag n))) (Below.heap_setCell _ _ _ _ (by show w.heap.size ≠ w.heap.size + 1; omega)))
  have HBE3 := Lib.hid (HBE2.out.set0 (.int .i64 (Lib.unzigzag n)))
  have HC3 := Lib.hid (HC2.out.set (p := ⟨w.heap.size + 1, 0, none⟩) (by show w.heap.size ≤ w.heap.size + 1; omega) (.int .i64 (Lib.unzigzag n)))
  have HSZ3 : Hid (w.heap.size + 2 ≤ (w2.setCell ⟨w.heap.size + 1, 0, none⟩ (.int .i64 (Lib.unzigzag n))).heap.size) := Lib.hid (by have := HSZ2.out; simpa [World.setCell] using this)
  generalize w2.setCell ⟨w.heap.size + 1, 0, none⟩ (.int .i64 (Lib.unzigzag n)) = w3 at HBR3 HBE3 HC3 HG HSZ3 ⊢
  clear x0 x1 x2 z0 z1 z2 HBR2 HBE2 HC2 HRD2
  refine HG.out.mono ?_
  rintro e w4 ⟨lv, ls, l2, b2, l3, b3, rfl, hru2, hrls, hrd4, hch4, hlabs⟩
  obtain ⟨a, ca, rfl, _⟩ := id hlabs
  have hsz3 := HSZ3.out
  have hb4 := HBE3.out.carry (hch4.block (w.heap.size + 1) (by omega) (by omega))
  have HBR4 := Lib.hid (HBR3.out.carry (hch4.block w.heap.size (by omega) (by omega)))
  have HBE4 := Lib.hid hb4
  obtain ⟨x0, x1, x2, z0, z1, z2⟩ := hb4
  have HRU2 := Lib.hid hru2
  have HRLS := Lib.hid hrls
  have HC4 := Lib.hid (HC3.out.trans hch4)
  have HSZ4 : Hid (w.heap.size + 2 ≤ w4.heap.size) := Lib.hid (Nat.le_trans hsz3 hch4.size)
  have hlabs4 : LabsAt (fun b => w.heap.size + 2 ≤ b) w4 (.slice a ls.length ca) ls := hlabs.mono fun b hb _ => by omega
  have HLB4 := Lib.hid hlabs4
  have HT := Lib.hid (text_rd 200 g (by omega) l3 b3 (w4.setCell ⟨w.heap.size + 1, 1, none⟩ (.slice a ls.length ca)) (hrd4.carry (Below.heap_setCell _ _ _ _ (by show g ≠ w.heap.size + 1; omega))) 200 rfl)
  clear hru2 hrls hrd4 hch4 hlabs hlabs4 HG hsz3
  go_wp2_with fail
  have HBR5 := Lib.hid (HBR4.out.carry (W' := w4.setCell ⟨w.heap.size + 1, 1, none⟩ (.slice a ls.length ca)) (Below.heap_setCell _ _ _ _ (by show w.heap.size ≠ w.heap.size + 1; omega)))
  have HBE5 := Lib.hid (HBE4.out.set1 (.slice a ls.length ca))
  have HC5 := Lib.hid (HC4.out.set (p := ⟨w.heap.size + 1, 1, none⟩) (by show w.heap.size ≤ w.heap.size + 1; omega) (.slice a ls.length ca))
  have HSZ5 : Hid (w.heap.size + 2 ≤ (w4.setCell ⟨w.heap.size + 1, 1, none⟩ (.slice a ls.length ca)).heap.size) := Lib.hid (by have := HSZ4.out; simpa [World.setCell] using this)
  have HLB5 : Hid (LabsAt (fun b => w.heap.size + 2 ≤ b) (w4.setCell ⟨w.heap.size + 1, 1, none⟩ (.slice a ls.length ca)) (.slice a ls.length ca) ls) := Lib.hid (HLB4.out.carry (by simp [World.setCell]) fun b hb _ => Below.heap_setCell _ _ _ _ (by show b ≠ w.heap.size + 1; omega))
  generalize w4.setCell ⟨w.heap.size + 1, 1, none⟩ (.slice a ls.length ca) = w5 at HBR5 HBE5 HC5 HT HSZ5 HLB5 ⊢
  clear x0 x1 x2 z0 z1 z2 HBR4 HBE4 HC4 HLB4
  refine HT.out.mono ?_
  rintro e w6 ⟨s, l6, b6, rfl, ht, hrd6, hon6⟩
  have hb6 := HBE5.out.carry (hon6.block (w.heap.size + 1) (by omega))
  have HBR6 := Lib.hid (HBR5.out.carry (hon6.block w.heap.size (by omega)))
  have HBE6 := Lib.hid hb6
  obtain ⟨x0, x1, x2, z0, z1, z2⟩ := hb6
  have HRT := Lib.hid ht
  have HC6 := Lib.hid (HC5.out.trans hon6.chg)
  have HSZ6 : Hid (w.heap.size + 2 ≤ w6.heap.size) := Lib.hid (by have := HSZ5.out; have := hon6.size; omega)
  have HLB6 : Hid (LabsAt (fun b => w.heap.size + 2 ≤ b) w6 (.slice a ls.length ca) ls) := Lib.hid (HLB5.out.carry (Nat.le_of_eq hon6.size.symm) fun b hb _ => hon6.block b (by omega))
  have HRD7 : Hid (Rd (w6.setCell ⟨w.heap.size + 1, 2, none⟩ (.string s)) g l6 b6) := Lib.hid (hrd6.carry (Below.heap_setCell _ _ _ _ (by show g ≠ w.heap.size + 1; omega)))
  have HB := Lib.hid (bad_any g l6 b6 _ HRD7.out)
  clear ht hrd6 hon6 HT
  go_wp2_with fail
  have HBR7 := Lib.hid (HBR6.out.carry (W' := w6.setCell ⟨w.heap.size + 1, 2, none⟩ (.string s)) (Below.heap_setCell _ _ _ _ (by show w.heap.size ≠ w.heap.size + 1; omega)))
  have HBE7 := Lib.hid (HBE6.out.set2 (.string s))
  have HC7 := Lib.hid (HC6.out.set (p := ⟨w.heap.size + 1, 2, none⟩) (by show w.heap.size ≤ w.heap.size + 1; omega) (.string s))
  have HSZ7 : Hid (w.heap.size + 2 ≤ (w6.setCell ⟨w.heap.size + 1, 2, none⟩ (.string s)).heap.size) := Lib.hid (by have := HSZ6.out; simpa [World.setCell] using this)
  have HLB7 : Hid (LabsAt (fun b => w.heap.size + 2 ≤ b) (w6.setCell ⟨w.heap.size + 1, 2, none⟩ (.string s)) (.slice a ls.length ca) ls) := Lib.hid (HLB6.out.carry (by simp [World.setCell]) fun b hb _ => Below.heap_setCell _ _ _ _ (by show b ≠ w.heap.size + 1; omega))
  generalize w6.setCell ⟨w.heap.size + 1, 2, none⟩ (.string s) = w7 at HBR7 HBE7 HC7 HB HSZ7 HLB7 HRD7 ⊢
  clear x0 x1 x2 z0 z1 z2 HBR6 HBE6 HC6 HLB6
  have hub := unzig_bounds n HRU.out.lt
  have HRE : Hid (RE l bad ⟨Lib.unzigzag n, ls, s⟩ l6 b6) := Lib.hid ⟨n, l1, b1, l2, b2, l3, b3, HRU.out, rfl, HRU2.out, HRLS.out, HRT.out⟩
  have HUB := Lib.hid hub
  clear hub HRU HRU2 HRLS HRT
  generalize Lib.unzigzag n = tm at HRE HUB HBE7
  obtain ⟨r0, r1, r2, p0, p1, p2⟩ := HBR7.out
  obtain ⟨x0, x1, x2, z0, z1, z2⟩ := HBE7.out
  refine HB.out.mono ?_
  rintro e w8 ⟨rfl, rfl⟩
  have HGD : Hid (Calls Tryz.prog 24 #[.agg #[.int .i64 tm, .slice a ls.length ca, .string s]] w7 fun e w' => e = .returned (.bool (Ent.ok ⟨tm, ls, s⟩)) ∧ Lay w7 w') := Lib.hid (good_any (e := ⟨tm, ls, s⟩) HLB7.out)
  have HRDL := Lib.hid HRD7.out.lt
  cases b6 with
  | true =>
    go_wp2_with fail
    have hq := ((HBR7.out.set0 (.int .i64 0)).set1 (.slice none 0 0)).set2 (.string ⟨#[]⟩)
    obtain ⟨q0, q1, q2, _, _, _⟩ := hq
    refine bodyPost_ret (v := .tuple #[.agg #[.int .i64 0, .slice none 0 0, .string ⟨#[]⟩], .bool false]) (by simp [results, Tryz.results184, go_sem, q0, q1, q2]) rfl ?_
    refine ⟨⟨tm, ls, s⟩, .slice a ls.length ca, l6, true, HRE.out, HUB.out, ?_, ?_, ?_, rfl⟩
    · exact ((HRD7.out.carry (Below.heap_setCell _ _ _ _ (by show g ≠ w.heap.size; omega))).carry (Below.heap_setCell _ _ _ _ (by show g ≠ w.heap.size; omega))).carry (Below.heap_setCell _ _ _ _ (by show g ≠ w.heap.size; omega))
    · exact ((HC7.out.set (Nat.le_refl _) _).set (p := ⟨w.heap.size, 1, none⟩) (Nat.le_refl _) _).set (p := ⟨w.heap.size, 2, none⟩) (Nat.le_refl _) _
    · exact (HLB7.out.carry (by simp [World.setCell]) fun b hb _ => ((Below.heap_setCell _ _ _ _ (by show b ≠ w.heap.size; omega)).trans (Below.heap_setCell _ _ _ _ (by show b ≠ w.heap.size; omega))).trans (Below.heap_setCell _ _ _ _ (by show b ≠ w.heap.size; omega))).mono fun b hb _ => by omega
  | false =>
    go_wp2_with fail
    refine HGD.out.mono ?_
    rintro e w9 ⟨rfl, hl9⟩
    have hsz7 := HSZ7.out
    have hb9 := HBR7.out.carry (hl9.block (k := w.heap.size) (by omega))
    have HRD9 := Lib.hid (HRD7.out.carry (hl9.block (k := g) HRDL.out))
    have HC9 : Hid (Chg g w w9) := Lib.hid (HC7.out.trans ⟨hl9.os, hl9.tape, hl9.output, hl9.size, fun k hk _ => hl9.block hk⟩)
    have HLB9 := Lib.hid (HLB7.out.lay hl9)
    have hbe9 := HBE7.out.carry (hl9.block (k := w.heap.size + 1) (by omega))
    clear r0 r1 r2 p0 p1 p2 x0 x1 x2 z0 z1 z2 hl9 hsz7
    have HB9 := Lib.hid hb9
    obtain ⟨r0, r1, r2, p0, p1, p2⟩ := hb9
    obtain ⟨x0, x1, x2, z0, z1, z2⟩ := hbe9
    cases hok : (Ent.ok ⟨tm, ls, s⟩) with
    | true =>
      have HOK := Lib.hid hok
      clear hok
      go_wp2_with fail
      have hq := ((HB9.out.set0 (.int .i64 tm)).set1 (.slice a ls.length ca)).set2 (.string s)
      obtain ⟨q0, q1, q2, _, _, _⟩ := hq
      refine bodyPost_ret (v := .tuple #[.agg #[.int .i64 tm, .slice a ls.length ca, .string s], .bool true]) (by simp [results, Tryz.results184, go_sem, q0, q1, q2]) rfl ?_
      refine ⟨⟨tm, ls, s⟩, .slice a ls.length ca, l6, false, HRE.out, HUB.out, ?_, ?_, ?_, by rw [HOK.out]; rfl⟩
      · exact ((HRD9.out.carry (Below.heap_setCell _ _ _ _ (by show g ≠ w.heap.size; omega))).carry (Below.heap_setCell _ _ _ _ (by show g ≠ w.heap.size; omega))).carry (Below.heap_setCell _ _ _ _ (by show g ≠ w.heap.size; omega))
      · exact ((HC9.out.set (Nat.le_refl _) _).set (p := ⟨w.heap.size, 1, none⟩) (Nat.le_refl _) _).set (p := ⟨w.heap.size, 2, none⟩) (Nat.le_refl _) _
      · exact (HLB9.out.carry (by simp [World.setCell]) fun b hb _ => ((Below.heap_setCell _ _ _ _ (by show b ≠ w.heap.size; omega)).trans (Below.heap_setCell _ _ _ _ (by show b ≠ w.heap.size; omega))).trans (Below.heap_setCell _ _ _ _ (by show b ≠ w.heap.size; omega))).mono fun b hb _ => by omega
    | false =>
      have HOK := Lib.hid hok
      clear hok
      go_wp2_with fail
      have hq := ((HB9.out.set0 (.int .i64 0)).set1 (.slice none 0 0)).set2 (.string ⟨#[]⟩)
      obtain ⟨q0, q1, q2, _, _, _⟩ := hq
      refine bodyPost_ret (v := .tuple #[.agg #[.int .i64 0, .slice none 0 0, .string ⟨#[]⟩], .bool false]) (by simp [results, Tryz.results184, go_sem, q0, q1, q2]) rfl ?_
      refine ⟨⟨tm, ls, s⟩, .slice a ls.length ca, l6, false, HRE.out, HUB.out, ?_, ?_, ?_, by rw [HOK.out]; rfl⟩
      · exact ((HRD9.out.carry (Below.heap_setCell _ _ _ _ (by show g ≠ w.heap.size; omega))).carry (Below.heap_setCell _ _ _ _ (by show g ≠ w.heap.size; omega))).carry (Below.heap_setCell _ _ _ _ (by show g ≠ w.heap.size; omega))
      · exact ((HC9.out.set (Nat.le_refl _) _).set (p := ⟨w.heap.size, 1, none⟩) (Nat.le_refl _) _).set (p := ⟨w.heap.size, 2, none⟩) (Nat.le_refl _) _
      · exact (HLB9.out.carry (by simp [World.setCell]) fun b hb _ => ((Below.heap_setCell _ _ _ _ (by show b ≠ w.heap.size; omega)).trans (Below.heap_setCell _ _ _ _ (by show b ≠ w.heap.size; omega))).trans (Below.heap_setCell _ _ _ _ (by show b ≠ w.heap.size; omega))).mono fun b hb _ => by omega
end Go.Proofs.YtoobjjpheegmdaaGreat.E4
