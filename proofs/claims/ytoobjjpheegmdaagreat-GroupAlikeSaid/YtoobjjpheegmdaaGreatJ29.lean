/-
  Ax14, Ea, Na.
-/
import Derived.Test.YtoobjjpheegmdaaGreatJ28
import Derived.Test.YtoobjjpheegmdaaGreatJ09
import Derived.Lib.Varint
import Derived.Lib.VarintBits
import Derived.Lib.VarintMem
import Derived.Lib.Zigzag
import Derived.WalkKit
import Derived.WalkSpells
import Derived.WalkLawsBesides
import Derived.Deep.Upon
import Derived.Lib.ConvBytes
import Derived.Lib.Hide
import Derived.Lib.Small
import Derived.Lib.Bytes
import Derived.Sort.Grow
import Derived.WalkSmall
import Derived.Lib.DecodeN
import Derived.Lib.Strings
import Derived.Deep.QuietTactic
import Derived.BigQuiet
import Derived.Lib.OthersKept
import Derived.Lib.Walk
import Derived.Outline
import Derived.Lib.EndianBits
import Derived.Lib.BitFns
import Derived.Lib.VarintDec
namespace Go.Proofs.YtoobjjpheegmdaaGreat.E4
open Go.RowKit Go
open Go.Sort (grow)
def AskP4 (es : List Ent) (a : Ask) (mo : Option Ent) (desc : Bool) (n : Int) (w : World) (x : Ending) (w' : World) : Prop :=
  Below w.heap.size w w' ∧
  ((¬ a.kd = 2 ∧ x = .returned (.tuple #[.slice none 0 0, .bool false, .int .i64 12])) ∨ (a.kd = 2 ∧ a.good isTx = false ∧ x = .returned (.tuple #[.slice none 0 0, .bool false, .int .i64 1])) ∨
   (a.kd = 2 ∧ a.good isTx = true ∧ ∃ v srt, Sorts (ordC desc) (es.filter (asksM a.src a.til a.mat)) srt ∧ x = .returned (.tuple #[v, .bool (Md.cut (ordC desc) mo n.toNat srt).2, .int .i64 0]) ∧ EntsAt (fun b => w.heap.size ≤ b) (fun _ => True) w' v (Md.cut (ordC desc) mo n.toNat srt).1))
set_option maxHeartbeats 8000000 in
set_option maxRecDepth 100000 in
theorem ask4_any (es : List Ent) (a : Ask) (av mv : Value) (has desc : Bool) (m : Ent) (ml : Value) (n : Int) (B gb : Nat) (w : World) (h : EngAt4 w B gb es) (h1 : TextsAt w av a.all) (h2 : MsAt w mv a.mat) (hm : LabsAt (fun _ => True) w ml m.labs)
    (hn : es.length ≤ 1000) (hng : a.great = false) (hlab : ∀ x ∈ es, x.labs.length ≤ 1000000) (hT : a.kd = 2 → a.mat ≠ [] → Lib.Utf8Tabs 1 2 w) :
    Calls Tryz.prog 144 #[.pointer (some ⟨gb, 0, none⟩), a.dyn av mv, mkV has m ml, .bool desc, .int .i64 n] w (AskP4 es a (mkO has m) desc n w) := by
  have hmx : Tryz.prog.follows .mixedOrders = true := by kernel_rfl
  obtain ⟨ma, mc, rfl, hm63, _⟩ := id hm
  obtain ⟨w1, hw1⟩ : ∃ w1, w1 = w.alloc (.cells #[.bool has, .int .i64 m.tm, .slice ma m.labs.length mc, .string m.line] 38) := ⟨_, rfl⟩
  have hb1 : Below w.heap.size w w1 := by rw [hw1]; exact (Below.refl _ w).alloc (Nat.le_refl _) _
  have hk1 : Bl w1 w.heap.size 38 #[.bool has, .int .i64 m.tm, .slice ma m.labs.length mc, .string m.line] := by rw [hw1]; exact Bl.new w 38 _
  obtain ⟨g1, g2, g3, g4⟩ : a.all.length ≤ 1000 ∧ (∀ l ∈ a.all, l.length ≤ 1000) ∧ a.mat.length ≤ 1000 ∧ ∀ l ∈ a.all, ∀ s ∈ l, s.size ≤ 100000 := great_no hng
  have HW1 := Lib.hid hw1.symm
  have HB1 := Lib.hid hb1
  have HK1 := Lib.hid hk1
  have H1 := Lib.hid (h1.below hb1)
  have H2 := Lib.hid (MsAt.below12 h2 hb1)
  by_cases hk : a.kd = 2
  · cases hgd : a.good isTx with
    | true =>
      refine (ask24_any es a av _ has desc m _ n B gb w h h1 h2 hm hn hng hlab hT hk hgd).mono ?_
      intro x w' hx
      unfold AskP24 at hx
      unfold AskP4
      obtain ⟨hb, v, srt, hso, hx, he⟩ := hx
      exact ⟨hb, .inr (.inr ⟨hk, hgd, v, srt, hso, hx, he.mono (fun _ hb _ => hb) (fun _ _ _ => trivial)⟩)⟩
    | false =>
      unfold mkV
      have HAS := Lib.hid (as2_yes a hk av mv w1 H2.out g3)
      obtain ⟨dv, hdv⟩ : ∃ v, v = a.dyn av mv := ⟨_, rfl⟩
      have HDG := Lib.hid (fun W (hW : Below w1.heap.size w1 W) => ownGood_any a av mv W (H1.out.below hW) (MsAt.below12 H2.out hW) fun h2 hne => Utf8Tabs_below (Utf8Tabs_below (hT h2 hne) hb1) hW)
      rw [← hdv] at HAS HDG ⊢
      have HKD := Lib.hid hk
      rw [hgd] at HDG
      have HGF := Lib.hid hgd
      clear h h1 h2 hm hn hng hlab hT g1 g2 g3 g4 hw1 hb1 hk1 hk hdv hgd
      go_enter Tryz.func144, Tryz.ntmps144
      go_upto_region 1 with fail
      rw [HW1.out]
      go_wp2_with fail
      refine HAS.out.mono ?_
      rintro x w2 ⟨v2, rfl, hx2, hb2⟩
      obtain ⟨qa, qc, rfl, _, _⟩ := id hx2
      obtain ⟨w3, hw3⟩ : ∃ w3, w3 = w2.alloc (.cells #[.int .i64 a.src, .int .i64 a.til, .slice qa a.mat.length qc] 76) := ⟨_, rfl⟩
      have hb3 : Below w2.heap.size w2 w3 := by rw [hw3]; exact (Below.refl _ w2).alloc (Nat.le_refl _) _
      have hk3 : Bl w3 w2.heap.size 76 #[.int .i64 a.src, .int .i64 a.til, .slice qa a.mat.length qc] := by rw [hw3]; exact Bl.new w2 76 _
      have HB3 := Lib.hid (below_mid hb2 hb3)
      have HG3 := Lib.hid (HDG.out w3 HB3.out)
      have HW3 := Lib.hid hw3.symm
      have HX3 := Lib.hid (MsAt.below12 hx2 hb3)
      have HK3 := Lib.hid hk3
      clear hb2 hb3 hk3 hw3 hx2 HAS
      generalize hQ : w2.heap.size = Q at HK3
      have HQ := Lib.hid hQ
      clear hQ
      go_upto_region 4 with fail
      rw [HW3.out, HQ.out]
      go_wp2_with (go_at_call 75; refine HG3.out.mono ?_; rintro x w4 ⟨rfl, hb4⟩)
      refine bodyPost_ret (v := .tuple #[.slice none 0 0, .bool false, .int .i64 1]) (by simp [results, Tryz.results144, go_sem]) rfl ⟨below_mid HB1.out (below_mid HB3.out hb4), .inr (.inl ⟨HKD.out, HGF.out, rfl⟩)⟩
  · unfold mkV
    have HAS := Lib.hid (as2_no a hk av mv w1 H1.out H2.out g1 g2 g3)
    obtain ⟨dv, hdv⟩ : ∃ v, v = a.dyn av mv := ⟨_, rfl⟩
    rw [← hdv] at HAS ⊢
    have HKD := Lib.hid hk
    clear h h1 h2 hm hn hng hlab hT g1 g2 g3 g4 hw1 hb1 hk1 hk hdv
    go_enter Tryz.func144, Tryz.ntmps144
    go_upto_region 1 with fail
    rw [HW1.out]
    go_wp2_with (go_at_call 148; refine HAS.out.mono ?_; rintro x w2 ⟨rfl, hb2⟩)
    refine bodyPost_ret (v := .tuple #[.slice none 0 0, .bool false, .int .i64 12]) (by simp [results, Tryz.results144, go_sem]) rfl ⟨below_mid HB1.out (below_mid hb2 ((Below.refl _ w2).alloc (Nat.le_refl _) _)), .inl ⟨HKD.out, rfl⟩⟩
end Go.Proofs.YtoobjjpheegmdaaGreat.E4
namespace Go.Proofs.YtoobjjpheegmdaaGreat.E4.M
open Go
theorem parts (l : List UInt8) : Cont l ∨ ∃ l0 c r, l = l0 ++ c :: r ∧ Cont l0 ∧ c.toNat < 128 := by
  induction l with
  | nil => exact .inl (fun _ h => by cases h)
  | cons d t ih =>
    by_cases hd : d.toNat < 128
    · exact .inr ⟨[], d, t, rfl, (fun _ h => by cases h), hd⟩
    · rcases ih with ih | ⟨l0, c, r, rfl, h0, hc⟩
      · refine .inl fun x hx => ?_
        rcases List.mem_cons.1 hx with rfl | hx
        · omega
        · exact ih x hx
      · refine .inr ⟨d :: l0, c, r, rfl, fun x hx => ?_, hc⟩
        rcases List.mem_cons.1 hx with rfl | hx
        · omega
        · exact h0 x hx
def NoNum (l : List UInt8) : Prop := ∀ l0 c r, IsNum l0 c → l ≠ l0 ++ c :: r
theorem num_or (l : List UInt8) : (∃ l0 c r, l = l0 ++ c :: r ∧ IsNum l0 c) ∨ NoNum l := by
  rcases parts l with h | ⟨l0, c, r, rfl, h0, hc⟩
  · refine .inr fun l0 c r hn e => ?_
    have := h c (by rw [e]; simp)
    have := hn.last
    omega
  · by_cases hn : IsNum l0 c
    · exact .inl ⟨l0, c, r, rfl, hn⟩
    · refine .inr fun m0 d t hm e => hn ?_
      obtain ⟨rfl, rfl, rfl⟩ := parts_unique h0 hc hm.cont hm.last e
      exact hm
end Go.Proofs.YtoobjjpheegmdaaGreat.E4.M
namespace Go.Proofs.YtoobjjpheegmdaaGreat.E4
open Go.RowKit Go
end Go.Proofs.YtoobjjpheegmdaaGreat.E4
namespace Go.Proofs.YtoobjjpheegmdaaGreat.E4
open Go.RowKit Go
end Go.Proofs.YtoobjjpheegmdaaGreat.E4
namespace Go.Proofs.YtoobjjpheegmdaaGreat.E4
open Go.RowKit Go
end Go.Proofs.YtoobjjpheegmdaaGreat.E4
namespace Go.Proofs.YtoobjjpheegmdaaGreat.E4
open Go.RowKit Go
end Go.Proofs.YtoobjjpheegmdaaGreat.E4
namespace Go.Proofs.YtoobjjpheegmdaaGreat.E4.MW
open Go
end Go.Proofs.YtoobjjpheegmdaaGreat.E4.MW
namespace Go.Proofs.YtoobjjpheegmdaaGreat.E4
open Go.RowKit Go
end Go.Proofs.YtoobjjpheegmdaaGreat.E4
namespace Go.Proofs.YtoobjjpheegmdaaGreat.E4
open Go.RowKit Go
end Go.Proofs.YtoobjjpheegmdaaGreat.E4
namespace Go.Proofs.YtoobjjpheegmdaaGreat.E4
open Go.RowKit Go
set_option maxHeartbeats 400000 in
theorem ends_yes (c k : Nat) (hc : c < 128) (hk : k ≤ 9) (h9 : k = 9 → c ≤ 1) (hz : c ≠ 0 ∨ k = 0) (w : World) :
    Calls Tryz.prog 203 #[.int .u8 c, .int .i64 k] w fun e w' => e = .returned (.bool true) ∧ w = w' := by
  by_cases hk9 : k = 9
  · subst hk9
    have hc1 : c = 0 ∨ c = 1 := by omega
    rcases hc1 with rfl | rfl
    · simp at hz
    · go_enter Tryz.func203, Tryz.ntmps203
      go_wp2
      go_ret
      exact ⟨rfl, rfl⟩
  · have e9 : ((k : Int) == 9) = false := by simp; omega
    by_cases hc0 : c = 0
    · subst hc0
      have hk0 : k = 0 := by simpa using hz
      subst hk0
      go_enter Tryz.func203, Tryz.ntmps203
      go_wp2
      go_ret
      exact ⟨rfl, rfl⟩
    · have e0 : ((c : Int) != 0) = true := by simp; omega
      have HZ := Lib.hid hz
      clear hz h9 hk9
      go_enter Tryz.func203, Tryz.ntmps203
      go_wp2
      go_ret
      exact ⟨rfl, rfl⟩
set_option maxHeartbeats 400000 in
theorem ends_no (c k : Nat) (hc : c < 128) (hk : k ≤ 9) (h : (k = 9 ∧ 1 < c) ∨ (c = 0 ∧ k ≠ 0)) (w : World) :
    Calls Tryz.prog 203 #[.int .u8 c, .int .i64 k] w fun e w' => e = .returned (.bool false) ∧ w = w' := by
  by_cases hk9 : k = 9
  · subst hk9
    by_cases hc1 : 1 < c
    · clear h
      go_enter Tryz.func203, Tryz.ntmps203
      go_wp2
      go_ret
      exact ⟨rfl, rfl⟩
    · have hc0 : c = 0 := by omega
      subst hc0
      clear h
      go_enter Tryz.func203, Tryz.ntmps203
      go_wp2
      go_ret
      exact ⟨rfl, rfl⟩
  · have e9 : ((k : Int) == 9) = false := by simp; omega
    have hc0 : c = 0 := by omega
    subst hc0
    have e0 : ((k : Int) == 0) = false := by simp; omega
    clear h hk9
    go_enter Tryz.func203, Tryz.ntmps203
    go_wp2
    go_ret
    exact ⟨rfl, rfl⟩
theorem pow7 (k : Nat) : (2 : Nat) ^ (7 * k) = 128 ^ k := by rw [Nat.pow_mul]
set_option maxRecDepth 100000 in
theorem andNot128 : ∀ b : Fin 256, bits .andNot .u8 (b.val : Int) 128 = ((b.val % 128 : Nat) : Int) := by decide
theorem or_step (acc b k : Nat) (hacc : acc < 128 ^ k) (hb : b < 256) (hfit : b % 128 * 128 ^ k < 18446744073709551616) (hk : k ≤ 9) :
    bits .or .u64 (acc : Int) (IntKind.u64.wrap (IntKind.u64.wrap (bits .andNot .u8 (b : Int) 128) * 2 ^ (7 * k))) = ((acc + b % 128 * 128 ^ k : Nat) : Int) := by
  have e0 : bits .andNot .u8 (b : Int) 128 = ((b % 128 : Nat) : Int) := andNot128 ⟨b, hb⟩
  have e1 : IntKind.u64.wrap ((b % 128 : Nat) : Int) = ((b % 128 : Nat) : Int) := by rw [IntKind.wrap_u64]; omega
  have e2 : ((b % 128 : Nat) : Int) * 2 ^ (7 * k) = ((b % 128 * 128 ^ k : Nat) : Int) := by
    rw [← pow7]; simp
  have e3 : IntKind.u64.wrap ((b % 128 * 128 ^ k : Nat) : Int) = ((b % 128 * 128 ^ k : Nat) : Int) := by
    rw [IntKind.wrap_u64]
    generalize b % 128 * 128 ^ k = x at hfit
    omega
  rw [e0, e1, e2, e3]
  have hp : 128 ^ k ≤ 128 ^ 9 := Nat.pow_le_pow_right (by decide) hk
  have p9 := M.pow9
  have ep : ((2 : Int) ^ (7 * k)) = ((128 ^ k : Nat) : Int) := by rw [← pow7]; simp
  have hm : b % 128 * 128 ^ k % 128 ^ k = 0 := Nat.mul_mod_left _ _
  have g1 : (acc : Int) < 2 ^ (7 * k) := by rw [ep]; omega
  have g2 : ((b % 128 * 128 ^ k : Nat) : Int) % 2 ^ (7 * k) = 0 := by rw [ep]; omega
  have g3 : ((b % 128 * 128 ^ k : Nat) : Int) < 2 ^ 64 := by
    generalize b % 128 * 128 ^ k = x at hfit
    omega
  rw [bits_join_low .u64 64 (by decide) wraps_u64 (7 * k) _ _ (by omega) g1 (by omega) (by omega) g2 g3]
  omega
theorem byte_at (s : ByteArray) (l : List UInt8) (hs : s.data.toList = l) (k : Nat) (h : k < s.size) (h' : k < l.length) : s[k] = l[k] := by
  subst hs
  rfl
theorem low_snoc (l : List UInt8) (c : UInt8) : M.low (l ++ [c]) = M.low l + c.toNat % 128 * 128 ^ l.length := by
  rw [M.low_append, Nat.mul_comm]
  simp [M.low]
theorem take_snoc (l : List UInt8) (k : Nat) (h : k < l.length) : l.take (k + 1) = l.take k ++ [l[k]] := by
  rw [List.take_succ_eq_append_getElem h]
theorem or_next (l0 : List UInt8) (k : Nat) (hk : k < l0.length) (h9 : k ≤ 8) :
    bits .or .u64 ((M.low (l0.take k) : Nat) : Int) (IntKind.u64.wrap (IntKind.u64.wrap (bits .andNot .u8 (l0[k].toNat : Int) 128) * 2 ^ (7 * k))) = ((M.low (l0.take (k + 1)) : Nat) : Int) := by
  have hl : (l0.take k).length = k := by rw [List.length_take]; omega
  have h1 := M.low_lt (l0.take k)
  rw [hl] at h1
  rw [or_step _ _ k h1 l0[k].toNat_lt (by
    have h128 : l0[k].toNat % 128 < 128 := Nat.mod_lt _ (by decide)
    have hp : 128 ^ k ≤ 128 ^ 8 := Nat.pow_le_pow_right (by decide) h9
    have p8 : (128 : Nat) ^ 8 = 72057594037927936 := by decide
    have h2 : l0[k].toNat % 128 * 128 ^ k ≤ 127 * 128 ^ 8 := Nat.mul_le_mul (by omega) hp
    omega) (by omega), take_snoc _ _ hk, low_snoc, hl]
theorem or_last (l0 : List UInt8) (c : UInt8) (hn : M.IsNum l0 c) :
    bits .or .u64 ((M.low l0 : Nat) : Int) (IntKind.u64.wrap (IntKind.u64.wrap (bits .andNot .u8 (c.toNat : Int) 128) * 2 ^ (7 * l0.length))) = ((M.low (l0 ++ [c]) : Nat) : Int) := by
  have h1 := M.low_lt l0
  have h2 := hn.lt
  rw [low_snoc] at h2
  rw [or_step _ _ l0.length h1 c.toNat_lt (by omega) hn.nine, low_snoc]
set_option maxHeartbeats 1000000 in
set_option maxRecDepth 100000 in
theorem first_yes (s : ByteArray) (l0 : List UInt8) (c : UInt8) (r : List UInt8) (hs : s.data.toList = l0 ++ c :: r) (hlen : s.size ≤ 70368744177664) (hn : M.IsNum l0 c) (w : World) :
    Calls Tryz.prog 202 #[.string s] w fun e w' => e = .returned (.tuple #[.int .u64 (M.low (l0 ++ [c]) : Nat), .int .i64 (l0.length + 1 : Nat)]) ∧ w = w' := by
  have hsz : s.size = l0.length + (r.length + 1) := by
    have : s.data.toList.length = s.size := Array.length_toList
    rw [← this, hs]; simp
  have HS := Lib.hid hs
  have HZ := Lib.hid hsz
  have HN := Lib.hid hn
  have h9 := hn.nine
  clear hs hsz hn
  go_enter Tryz.func202, Tryz.ntmps202
  go_wp2
  go_loop [4, 5, 6] (fun vn vi _ => ∃ k : Nat, vi = .int .i64 k ∧ k ≤ l0.length ∧ vn = .int .u64 (M.low (l0.take k) : Nat)) (fun _ vi _ => l0.length + 1 - (intOf vi).toNat)
  case atStart => exact ⟨0, rfl, Nat.zero_le _, rfl⟩
  case round =>
    obtain ⟨k, rfl, hk, rfl⟩ := hrel
    have hks : k < s.size := by have := HZ.out; omega
    by_cases hlt : k < l0.length
    · go_wp2_with fail
      · exfalso
        have hb : s[k] = l0[k] := by rw [byte_at s _ HS.out k hks (by simp; omega), List.getElem_append_left hlt]
        have hc := HN.out.cont l0[k] (List.getElem_mem _)
        have h1 : ((s[k].toNat : Nat) : Int) < 128 := by assumption
        rw [hb] at h1
        omega
      · have hb : s[k] = l0[k] := by rw [byte_at s _ HS.out k hks (by simp; omega), List.getElem_append_left hlt]
        have hX := or_next l0 k hlt (by omega)
        go_round
        case rel => exact ⟨k + 1, by go_num, by omega, by rw [hb, hX]⟩
        case measure => simp [intOf]; omega
    · obtain rfl : k = l0.length := by omega
      have hb : s[l0.length] = c := by rw [byte_at s _ HS.out l0.length hks (by simp)]; simp
      have hcl := HN.out.last
      have HB := Lib.hid hb
      clear hb
      go_wp2_with fail
      · refine (ends_yes _ _ (by rw [HB.out]; omega) h9 (by rw [HB.out]; exact HN.out.one) (by rw [HB.out]; exact HN.out.short.imp id (fun h => by rw [h]; rfl)) _).mono ?_
        rintro e w' ⟨rfl, rfl⟩
        go_wp2
        go_ret2
        have hX := or_last l0 c HN.out
        rw [HB.out, hX]
        exact ⟨rfl, rfl⟩
      · exfalso
        have h1 : 128 ≤ ((s[l0.length].toNat : Nat) : Int) := by assumption
        rw [HB.out] at h1
        omega
set_option maxHeartbeats 1000000 in
set_option maxRecDepth 100000 in
theorem first_no (s : ByteArray) (t : Nat) (ht : t ≤ s.size) (hc : ∀ j (h : j < t), 128 ≤ (s[j]'(by omega)).toNat) (hlen : s.size ≤ 70368744177664)
    (hend : t = s.size ∨ 10 ≤ t ∨ (t ≤ 9 ∧ ∃ h : t < s.size, s[t].toNat < 128 ∧ ((t = 9 ∧ 1 < s[t].toNat) ∨ (s[t].toNat = 0 ∧ t ≠ 0)))) (w : World) :
    Calls Tryz.prog 202 #[.string s] w fun e w' => e = .returned (.tuple #[.int .u64 0, .int .i64 0]) ∧ w = w' := by
  have HC := Lib.hid hc
  have HE := Lib.hid hend
  clear hc hend
  go_enter Tryz.func202, Tryz.ntmps202
  go_wp2
  go_loop [4, 5, 6] (fun vn vi _ => ∃ (k : Nat) (x : Int), vi = .int .i64 k ∧ k ≤ t ∧ k ≤ 10 ∧ vn = .int .u64 x) (fun _ vi _ => t + 1 - (intOf vi).toNat)
  case atStart => exact ⟨0, 0, rfl, Nat.zero_le _, by omega, rfl⟩
  case round =>
    obtain ⟨k, x, rfl, hk, hk10, rfl⟩ := hrel
    by_cases h10 : k < 10
    · by_cases hlt : k < t
      · have hks : k < s.size := by omega
        go_wp2_with fail
        · exfalso
          have h1 : ((s[k].toNat : Nat) : Int) < 128 := by assumption
          have h2 := HC.out k hlt
          omega
        · go_round
          case rel => exact ⟨k + 1, _, by go_num, by omega, by omega, rfl⟩
          case measure => simp [intOf]; omega
      · obtain rfl : k = t := by omega
        by_cases hks : k < s.size
        · obtain ⟨_, hb, hw⟩ : ∃ h : k < s.size, s[k].toNat < 128 ∧ ((k = 9 ∧ 1 < s[k].toNat) ∨ (s[k].toNat = 0 ∧ k ≠ 0)) := by
            rcases HE.out with h | h | ⟨_, h⟩
            · omega
            · omega
            · exact h
          have HB := Lib.hid hb
          have HW := Lib.hid hw
          clear hb hw
          go_wp2_with fail
          · refine (ends_no _ _ HB.out (by omega) HW.out _).mono ?_
            rintro e w' ⟨rfl, rfl⟩
            go_wp2
            go_ret2
            exact ⟨rfl, rfl⟩
          · exfalso
            have h1 : 128 ≤ ((s[k].toNat : Nat) : Int) := by assumption
            have := HB.out
            omega
        · go_wp2
          go_ret2
          exact ⟨rfl, rfl⟩
    · obtain rfl : k = 10 := by omega
      by_cases hks : 10 < s.size
      · go_wp2
        go_ret2
        exact ⟨rfl, rfl⟩
      · go_wp2
        go_ret2
        exact ⟨rfl, rfl⟩
end Go.Proofs.YtoobjjpheegmdaaGreat.E4
namespace Go.Proofs.YtoobjjpheegmdaaGreat.E4
open Go.RowKit Go
end Go.Proofs.YtoobjjpheegmdaaGreat.E4
namespace Go.Proofs.YtoobjjpheegmdaaGreat.E4
open Go.RowKit Go
theorem Only.setCell (g o : Nat) (w : World) (v : Value) : Only g w (w.setCell ⟨g, o, none⟩ v) :=
  ⟨rfl, rfl, rfl, by simp [World.setCell], fun k hk => Below.heap_setCell w _ v k hk⟩
set_option maxHeartbeats 400000 in
theorem bad_any (g : Nat) (l : List UInt8) (bad : Bool) (w : World) (h : Rd w g l bad) : Calls Tryz.prog 193 #[.pointer (some ⟨g, 0, none⟩)] w fun e w' => e = .returned (.bool bad) ∧ w = w' := by
  have h1 := h.isBad
  clear h
  go_enter Tryz.func193, Tryz.ntmps193
  go_wp2
  go_ret
  exact ⟨rfl, rfl⟩
theorem Rd.set {w : World} {g : Nat} {l : List UInt8} {bad : Bool} (h : Rd w g l bad) (s : ByteArray) (hl : s.data.toList.length ≤ 70368744177664) : Rd (w.setCell ⟨g, 0, none⟩ (.string s)) g s.data.toList bad := by
  obtain ⟨⟨s0, hs, h0⟩, h1, h2, h3, h4⟩ := h
  exact ⟨⟨s, rfl, by go_simp⟩, by go_simp, by simpa using h2, by simpa using h3, hl⟩
set_option maxHeartbeats 400000 in
theorem fail_any (g : Nat) (l : List UInt8) (bad : Bool) (w : World) (h : Rd w g l bad) : Calls Tryz.prog 200 #[.pointer (some ⟨g, 0, none⟩)] w fun e w' => e = .returned (.tuple #[]) ∧ Rd w' g [] true ∧ Only g w w' := by
  obtain ⟨⟨s, hs, h0⟩, h1, h2, h3, h4⟩ := h
  clear hs h4
  go_enter Tryz.func200, Tryz.ntmps200
  go_wp2
  go_end0
  refine ⟨rfl, ?_, (Only.setCell g 0 w _).trans (Only.setCell g 1 _ _)⟩
  exact ⟨⟨ByteArray.mk #[], rfl, by go_simp⟩, by go_simp, by simpa using h2, by simpa using h3, by simp⟩
set_option maxHeartbeats 400000 in
theorem take_any (g k : Nat) (l : List UInt8) (w : World) (h : Rd w g l false) (hk : k ≤ l.length) : Calls Tryz.prog 201 #[.pointer (some ⟨g, 0, none⟩), .int .i64 k] w fun e w' => (∃ s : ByteArray, e = .returned (.string s) ∧ s.data.toList = l.take k) ∧ Rd w' g (l.drop k) false ∧ Only g w w' := by
  have hR := h
  obtain ⟨⟨s, hs, h0⟩, h1, h2, h3, h4⟩ := h
  have hsz : s.size = l.length := by rw [Lib.size_eq, hs]
  have hks : k ≤ s.size := by omega
  have hsl : s.size ≤ 70368744177664 := by omega
  have HS := Lib.hid hs
  have HZ := Lib.hid hsz
  have HR := Lib.hid hR
  clear hs hsz h4 hk hR
  go_enter Tryz.func201, Tryz.ntmps201
  go_wp2
  go_ret
  refine ⟨⟨_, rfl, ?_⟩, ?_, Only.setCell g 0 w _⟩
  · rw [Lib.extract_data, HS.out]
    simp
  · have e : (s.extract k s.size).data.toList = l.drop k := by
      rw [Lib.extract_data, HS.out, HZ.out, List.take_of_length_le (by simp)]
    have hr := HR.out.set (s.extract k s.size) (by rw [e, List.length_drop]; have := HZ.out; omega)
    rw [e] at hr
    exact hr
set_option maxHeartbeats 400000 in
theorem uint_bad (most g : Nat) (l : List UInt8) (w : World) (h : Rd w g l true) : Calls Tryz.prog 199 #[.pointer (some ⟨g, 0, none⟩), .int .u64 most] w fun e w' => e = .returned (.int .u64 0) ∧ w = w' := by
  go_enter Tryz.func199, Tryz.ntmps199
  go_wp2_with (go_at_call 193; refine (bad_any g _ true _ h).mono ?_; rintro e w' ⟨rfl, rfl⟩)
  go_ret
  exact ⟨rfl, rfl⟩
set_option maxHeartbeats 1000000 in
theorem uint_good (most g : Nat) (l0 : List UInt8) (c : UInt8) (r : List UInt8) (hn : M.IsNum l0 c) (w : World) (h : Rd w g (l0 ++ c :: r) false) (hle : M.low (l0 ++ [c]) ≤ most) :
    Calls Tryz.prog 199 #[.pointer (some ⟨g, 0, none⟩), .int .u64 most] w fun e w' => e = .returned (.int .u64 (M.low (l0 ++ [c]) : Nat)) ∧ Rd w' g r false ∧ Only g w w' := by
  obtain ⟨s, hs, h0⟩ := h.str
  have hsz : s.size = (l0 ++ c :: r).length := by rw [Lib.size_eq, hs]
  have hF := first_yes s l0 c r hs (by rw [hsz]; exact h.len) hn w
  have hT := take_any g (l0.length + 1) (l0 ++ c :: r) w h (by simp)
  have ed : (l0 ++ c :: r).drop (l0.length + 1) = r := by
    rw [← List.drop_drop, List.drop_left]; rfl
  rw [ed] at hT
  have HF := Lib.hid hF
  have HT := Lib.hid hT
  have e1 : ((l0.length : Int) + 1 == 0) = false := by simp; omega
  have e2 : ¬ most < M.low (l0 ++ [c]) := by omega
  clear hF hT ed hs hsz hn hle
  go_enter Tryz.func199, Tryz.ntmps199
  go_wp2_with (first | (go_at_call 193; refine (bad_any g _ false _ h).mono ?_; rintro e w' ⟨rfl, rfl⟩) | (go_at_call 202; refine HF.out.mono ?_; rintro e w' ⟨rfl, rfl⟩) | (go_at_call 201; refine HT.out.mono ?_; rintro e w' ⟨⟨s', rfl, hs'⟩, hr, ho⟩))
  go_ret
  exact ⟨rfl, hr, ho⟩
theorem first_none (s : ByteArray) (hlen : s.size ≤ 70368744177664) (h : M.NoNum s.data.toList) (w : World) :
    Calls Tryz.prog 202 #[.string s] w fun e w' => e = .returned (.tuple #[.int .u64 0, .int .i64 0]) ∧ w = w' := by
  have hsz : s.data.toList.length = s.size := (Lib.size_eq s).symm
  rcases M.parts s.data.toList with hc | ⟨l0, c, r, hs, h0, hc⟩
  · exact first_no s s.size (Nat.le_refl _) (fun j hj => hc _ (by rw [byte_at s _ rfl j hj (by omega)]; exact List.getElem_mem _)) hlen (.inl rfl) w
  · have hl : s.size = l0.length + (r.length + 1) := by rw [← hsz, hs]; simp
    refine first_no s l0.length (by omega) (fun j hj => ?_) hlen ?_ w
    · have e : s[j]'(by omega) = l0[j] := by
        rw [byte_at s _ hs j (by omega) (by simp; omega), List.getElem_append_left hj]
      rw [e]
      exact h0 _ (List.getElem_mem _)
    · rcases Nat.lt_or_ge 9 l0.length with h9 | h9
      · exact .inr (.inl h9)
      · refine .inr (.inr ⟨h9, by omega, ?_⟩)
        have e : s[l0.length]'(by omega) = c := by
          rw [byte_at s _ hs l0.length (by omega) (by simp)]; simp
        rw [e]
        refine ⟨hc, ?_⟩
        by_cases a : l0.length = 9 ∧ 1 < c.toNat
        · exact .inl a
        · refine .inr ?_
          have hno : ¬ M.IsNum l0 c := fun hn => h l0 c r hn hs
          by_cases b : c.toNat = 0 ∧ l0.length ≠ 0
          · exact b
          · exfalso
            refine hno ⟨h0, hc, ?_, h9, fun e9 => by omega⟩
            by_cases b2 : c.toNat = 0
            · exact .inr (List.eq_nil_of_length_eq_zero (by omega))
            · exact .inl b2
set_option maxHeartbeats 1000000 in
theorem uint_none (most g : Nat) (l : List UInt8) (w : World) (h : Rd w g l false) (hno : ∀ l0 c r, M.IsNum l0 c → l = l0 ++ c :: r → most < M.low (l0 ++ [c])) :
    Calls Tryz.prog 199 #[.pointer (some ⟨g, 0, none⟩), .int .u64 most] w fun e w' => e = .returned (.int .u64 0) ∧ Rd w' g [] true ∧ Only g w w' := by
  obtain ⟨s, hs, h0⟩ := h.str
  have hsz : s.size = l.length := by rw [Lib.size_eq, hs]
  have hT := fail_any g l false w h
  rcases M.num_or l with ⟨l0, c, r, hl, hn⟩ | hn
  · have hF := first_yes s l0 c r (hs.trans hl) (by rw [hsz]; exact h.len) hn w
    have hlt := hno l0 c r hn hl
    have HF := Lib.hid hF
    have HT := Lib.hid hT
    have e1 : ((l0.length : Int) + 1 == 0) = false := by simp; omega
    clear hF hT hs hsz hn hl hno
    go_enter Tryz.func199, Tryz.ntmps199
    go_wp2_with (first | (go_at_call 193; refine (bad_any g _ false _ h).mono ?_; rintro e w' ⟨rfl, rfl⟩) | (go_at_call 202; refine HF.out.mono ?_; rintro e w' ⟨rfl, rfl⟩) | (go_at_call 200; refine HT.out.mono ?_; rintro e w' ⟨rfl, hr, ho⟩))
    go_ret
    exact ⟨rfl, hr, ho⟩
  · have hF := first_none s (by rw [hsz]; exact h.len) (by rw [hs]; exact hn) w
    have HF := Lib.hid hF
    have HT := Lib.hid hT
    clear hF hT hs hsz hn hno
    go_enter Tryz.func199, Tryz.ntmps199
    go_wp2_with (first | (go_at_call 193; refine (bad_any g _ false _ h).mono ?_; rintro e w' ⟨rfl, rfl⟩) | (go_at_call 202; refine HF.out.mono ?_; rintro e w' ⟨rfl, rfl⟩) | (go_at_call 200; refine HT.out.mono ?_; rintro e w' ⟨rfl, hr, ho⟩))
    go_ret
    exact ⟨rfl, hr, ho⟩
theorem uint_rd (most g : Nat) (l : List UInt8) (bad : Bool) (w : World) (h : Rd w g l bad) :
    Calls Tryz.prog 199 #[.pointer (some ⟨g, 0, none⟩), .int .u64 most] w fun e w' => ∃ (n : Nat) (l' : List UInt8) (bad' : Bool), e = .returned (.int .u64 n) ∧ RU most l bad n l' bad' ∧ Rd w' g l' bad' ∧ Only g w w' := by
  cases bad
  · by_cases hx : ∃ l0 c r, M.IsNum l0 c ∧ l = l0 ++ c :: r ∧ M.low (l0 ++ [c]) ≤ most
    · obtain ⟨l0, c, r, hn, rfl, hle⟩ := hx
      exact (uint_good most g l0 c r hn w h hle).mono fun e w' ⟨h1, h2, h3⟩ => ⟨_, _, _, h1, .good l0 c r hn hle, h2, h3⟩
    · have hno : ∀ l0 c r, M.IsNum l0 c → l = l0 ++ c :: r → most < M.low (l0 ++ [c]) := fun l0 c r hn hl => by
        rcases Nat.lt_or_ge most (M.low (l0 ++ [c])) with a | a
        · exact a
        · exact absurd ⟨l0, c, r, hn, hl, a⟩ hx
      exact (uint_none most g l w h hno).mono fun e w' ⟨h1, h2, h3⟩ => ⟨0, _, _, h1, .none l hno, h2, h3⟩
  · exact (uint_bad most g l w h).mono fun e w' ⟨h1, h2⟩ => ⟨0, l, true, h1, .bad l, h2 ▸ h, h2 ▸ Only.refl g w⟩
theorem unzig_even (n : Nat) (h : n % 2 = 0) : Lib.unzigzag n = ((n / 2 : Nat) : Int) := by unfold Lib.unzigzag; rw [if_pos h]
theorem unzig_odd (n : Nat) (h : ¬ n % 2 = 0) : Lib.unzigzag n = -((n / 2 : Nat) : Int) - 1 := by unfold Lib.unzigzag; rw [if_neg h]
def IntPost (g : Nat) (l : List UInt8) (bad : Bool) (w : World) (e : Ending) (w' : World) : Prop :=
  ∃ (n : Nat) (l' : List UInt8) (bad' : Bool), e = .returned (.int .i64 (Lib.unzigzag n)) ∧ RU 18446744073709551615 l bad n l' bad' ∧ Rd w' g l' bad' ∧ Only g w w'
set_option maxHeartbeats 1000000 in
theorem int_rd (g : Nat) (l : List UInt8) (bad : Bool) (w : World) (h : Rd w g l bad) :
    Calls Tryz.prog 190 #[.pointer (some ⟨g, 0, none⟩)] w (IntPost g l bad w) := by
  have hU := uint_rd 18446744073709551615 g l bad w h
  have e : ((18446744073709551615 : Nat) : Int) = 18446744073709551615 := rfl
  rw [e] at hU
  have HU := Lib.hid hU
  clear hU e
  go_enter Tryz.func190, Tryz.ntmps190
  go_wp2_with fail
  refine HU.out.mono ?_
  rintro e w' ⟨n, l', bad', rfl, hr, hd, ho⟩
  have hlt := hr.lt
  have HR := Lib.hid hr
  have HD := Lib.hid hd
  have HO := Lib.hid ho
  clear hr hd ho
  have ha : bits .and .u64 (n : Int) 1 = ((n % 2 : Nat) : Int) := by rw [Lib.u64_and1 _ (by omega) (by omega)]; omega
  by_cases hn : n % 2 = 0
  · have hz := unzig_even n hn
    have HZ := Lib.hid hz
    have e1 : bits .and .u64 (n : Int) 1 = 0 := by rw [ha, hn]; rfl
    clear hz ha hn
    go_wp2
    go_ret
    refine ⟨n, l', bad', ?_, HR.out, HD.out, HO.out⟩
    rw [HZ.out]
    first | rfl | simp
  · have hz := unzig_odd n hn
    have HZ := Lib.hid hz
    have e1 : bits .and .u64 (n : Int) 1 = 1 := by rw [ha]; omega
    have e2 : bits .xor .i64 (-1) ((n / 2 : Nat) : Int) = -((n / 2 : Nat) : Int) - 1 := Lib.i64_not _ (by omega)
    have e3 : bits .xor .i64 (-1) ((n : Int) / 2) = -((n / 2 : Nat) : Int) - 1 := by rw [← e2]; rfl
    have H3 := Lib.hid e3
    clear hz ha hn e2 e3
    go_wp2
    go_ret
    refine ⟨n, l', bad', ?_, HR.out, HD.out, HO.out⟩
    rw [HZ.out, ← H3.out]
    rfl
inductive RT (most : Nat) (l : List UInt8) (bad : Bool) : List UInt8 → List UInt8 → Bool → Prop
  | bad (n : Nat) (l1 : List UInt8) (h : RU most l bad n l1 true) : RT most l bad [] l1 true
  | short (n : Nat) (l1 : List UInt8) (h : RU most l bad n l1 false) (hn : l1.length < n) : RT most l bad [] [] true
  | good (n : Nat) (l1 : List UInt8) (h : RU most l bad n l1 false) (hn : n ≤ l1.length) : RT most l bad (l1.take n) (l1.drop n) false
set_option maxHeartbeats 1000000 in
theorem text_rd (most g : Nat) (hm : most < 9223372036854775808) (l : List UInt8) (bad : Bool) (w : World) (h : Rd w g l bad) (mo : Int) (hmo : mo = (most : Int)) :
    Calls Tryz.prog 192 #[.pointer (some ⟨g, 0, none⟩), .int .i64 mo] w fun e w' => ∃ (s : ByteArray) (l' : List UInt8) (bad' : Bool), e = .returned (.string s) ∧ RT most l bad s.data.toList l' bad' ∧ Rd w' g l' bad' ∧ Only g w w' := by
  have hU := uint_rd most g l bad w h
  have hw : IntKind.u64.wrap mo = (most : Int) := by rw [hmo, IntKind.wrap_u64]; omega
  rw [← hw] at hU
  have h0 : 0 ≤ mo := by omega
  have hmx : max mo 0 = mo := by omega
  have HU := Lib.hid hU
  clear hU hmo hw hm
  go_enter Tryz.func192, Tryz.ntmps192
  go_wp2_with fail
  refine HU.out.mono ?_
  rintro e w' ⟨n, l', bad', rfl, hr, hd, ho⟩
  have hlt := hr.lt
  have HR := Lib.hid hr
  have HO := Lib.hid ho
  clear hr ho
  cases bad'
  · obtain ⟨s, hs, h0⟩ := hd.str
    have hsz : s.size = l'.length := by rw [Lib.size_eq, hs]
    have hll := hd.len
    have hsl : s.size ≤ 70368744177664 := by omega
    by_cases hn : n ≤ l'.length
    · have hns : ¬ (s.size < n) := by omega
      have hni : IntKind.i64.wrap (n : Int) = n := by rw [IntKind.wrap_i64]; omega
      have hT := take_any g n l' w' hd hn
      have HT := Lib.hid hT
      clear hT hs hsz hll
      go_wp2_with (first | (go_at_call 193; refine (bad_any g _ false _ hd).mono ?_; rintro e w' ⟨rfl, rfl⟩) | (go_at_call 201; refine HT.out.mono ?_; rintro e w2 ⟨⟨s', rfl, hs'⟩, hr2, ho2⟩))
      go_ret
      refine ⟨s', _, _, rfl, ?_, hr2, HO.out.trans ho2⟩
      rw [hs']
      exact .good n l' HR.out hn
    · have hns : s.size < n := by omega
      have hT := fail_any g l' false w' hd
      have HT := Lib.hid hT
      clear hT hs hsz hll
      go_wp2_with (first | (go_at_call 193; refine (bad_any g _ false _ hd).mono ?_; rintro e w' ⟨rfl, rfl⟩) | (go_at_call 200; refine HT.out.mono ?_; rintro e w2 ⟨rfl, hr2, ho2⟩))
      go_ret
      exact ⟨⟨#[]⟩, _, _, rfl, .short n l' HR.out (by omega), hr2, HO.out.trans ho2⟩
  · go_wp2_with (first | (go_at_call 193; refine (bad_any g _ true _ hd).mono ?_; rintro e w' ⟨rfl, rfl⟩))
    go_ret
    exact ⟨⟨#[]⟩, _, _, rfl, .bad n l' HR.out, hd, HO.out⟩
end Go.Proofs.YtoobjjpheegmdaaGreat.E4
namespace Go.Proofs.YtoobjjpheegmdaaGreat.E4
open Go.RowKit Go
theorem unzig_bounds (n : Nat) (h : n < 18446744073709551616) : -9223372036854775808 ≤ Lib.unzigzag n ∧ Lib.unzigzag n ≤ 9223372036854775807 := by
  by_cases e : n % 2 = 0
  · rw [unzig_even n e]; omega
  · rw [unzig_odd n e]; omega
theorem ru_put {most x : Nat} (hx : x < 18446744073709551616) (hm : x ≤ most) {r l : List UInt8} (hl : l = Lib.uvarint x ++ r) {n : Nat} {l' : List UInt8} {bad' : Bool} (h : RU most l false n l' bad') : n = x ∧ l' = r ∧ bad' = false := by
  obtain ⟨l0, c, e, hn, hlow⟩ := M.isNum_of x hx
  rw [e, List.append_assoc] at hl
  cases h with
  | good m0 d t hm0 _ =>
    obtain ⟨rfl, rfl, rfl⟩ := M.parts_unique hm0.cont hm0.last hn.cont hn.last hl
    exact ⟨hlow, rfl, rfl⟩
  | none _ hno =>
    have := hno l0 c r hn hl
    omega
theorem rt_put {most : Nat} {s r l : List UInt8} (hs : s.length < 18446744073709551616) (hm : s.length ≤ most) (hl : l = textB s ++ r) {t l' : List UInt8} {bad' : Bool} (h : RT most l false t l' bad') : t = s ∧ l' = r ∧ bad' = false := by
  have hl2 : l = Lib.uvarint s.length ++ (s ++ r) := by rw [hl]; unfold textB; rw [List.append_assoc]
  cases h with
  | bad n l1 h =>
    obtain ⟨_, _, h3⟩ := ru_put hs hm hl2 h
    cases h3
  | short n l1 h hn =>
    obtain ⟨rfl, rfl, _⟩ := ru_put hs hm hl2 h
    simp at hn
    omega
  | good n l1 h hn =>
    obtain ⟨rfl, rfl, _⟩ := ru_put hs hm hl2 h
    exact ⟨by simp, by simp, rfl⟩
theorem Only.chg {g : Nat} {w w' : World} (h : Only g w w') : Chg g w w' := ⟨h.os, h.tape, h.output, Nat.le_of_eq h.size.symm, fun k _ hk => h.block k hk⟩
end Go.Proofs.YtoobjjpheegmdaaGreat.E4
