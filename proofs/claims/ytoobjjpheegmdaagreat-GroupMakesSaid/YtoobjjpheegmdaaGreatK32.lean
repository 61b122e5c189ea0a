/-
  Ax14, Ea.
-/
import Derived.Test.YtoobjjpheegmdaaGreatK31
import Derived.Test.YtoobjjpheegmdaaGreatK09
import Derived.Lib.Varint
import Derived.Lib.VarintBits
import Derived.Lib.VarintMem
import Derived.Lib.Zigzag
import Derived.WalkKit
import Derived.WalkSpells
import Derived.WalkLawsBesides
import Derived.Deep.Upon
import Derived.Lib.ConvBytes
import Derived.Lib.Hide
import Derived.Lib.Small
import Derived.Lib.Bytes
import Derived.Sort.Grow
import Derived.WalkSmall
import Derived.Lib.DecodeN
import Derived.Lib.Strings
import Derived.Deep.QuietTactic
import Derived.BigQuiet
import Derived.Lib.OthersKept
import Derived.Lib.Walk
import Derived.Outline
namespace Go.Proofs.YtoobjjpheegmdaaGreat.E4
open Go.RowKit Go
open Go.Sort (grow)
def AskP4 (es : List Ent) (a : Ask) (mo : Option Ent) (desc : Bool) (n : Int) (w : World) (x : Ending) (w' : World) : Prop :=
  Below w.heap.size w w' ∧
  ((¬ a.kd = 2 ∧ x = .returned (.tuple #[.slice none 0 0, .bool false, .int .i64 12])) ∨ (a.kd = 2 ∧ a.good isTx = false ∧ x = .returned (.tuple #[.slice none 0 0, .bool false, .int .i64 1])) ∨
   (a.kd = 2 ∧ a.good isTx = true ∧ ∃ v srt, Sorts (ordC desc) (es.filter (asksM a.src a.til a.mat)) srt ∧ x = .returned (.tuple #[v, .bool (Md.cut (ordC desc) mo n.toNat srt).2, .int .i64 0]) ∧ EntsAt (fun b => w.heap.size ≤ b) (fun _ => True) w' v (Md.cut (ordC desc) mo n.toNat srt).1))
set_option maxHeartbeats 8000000 in
set_option maxRecDepth 100000 in
theorem ask4_any (es : List Ent) (a : Ask) (av mv : Value) (has desc : Bool) (m : Ent) (ml : Value) (n : Int) (B gb : Nat) (w : World) (h : EngAt4 w B gb es) (h1 : TextsAt w av a.all) (h2 : MsAt w mv a.mat) (hm : LabsAt (fun _ => True) w ml m.labs)
    (hn : es.length ≤ 1000) (hng : a.great = false) (hlab : ∀ x ∈ es, x.labs.length ≤ 1000000) (hT : a.kd = 2 → a.mat ≠ [] → Lib.Utf8Tabs 1 2 w) :
    Calls Tryz.prog 144 #[.pointer (some ⟨gb, 0, none⟩), a.dyn av mv, mkV has m ml, .bool desc, .int .i64 n] w (AskP4 es a (mkO has m) desc n w) := by
  have hmx : Tryz.prog.follows .mixedOrders = true := by kernel_rfl
  obtain ⟨ma, mc, rfl, hm63, _⟩ := id hm
  obtain ⟨w1, hw1⟩ : ∃ w1, w1 = w.alloc (.cells #[.bool has, .int .i64 m.tm, .slice ma m.labs.length mc, .string m.line] 38) := ⟨_, rfl⟩
  have hb1 : Below w.heap.size w w1 := by rw [hw1]; exact (Below.refl _ w).alloc (Nat.le_refl _) _
  have hk1 : Bl w1 w.heap.size 38 #[.bool has, .int .i64 m.tm, .slice ma m.labs.length mc, .string m.line] := by rw [hw1]; exact Bl.new w 38 _
  obtain ⟨g1, g2, g3, g4⟩ : a.all.length ≤ 1000 ∧ (∀ l ∈ a.all, l.length ≤ 1000) ∧ a.mat.length ≤ 1000 ∧ ∀ l ∈ a.all, ∀ s ∈ l, s.size ≤ 100000 := great_no hng
  have HW1 := Lib.hid hw1.symm
  have HB1 := Lib.hid hb1
  have HK1 := Lib.hid hk1
  have H1 := Lib.hid (h1.below hb1)
  have H2 := Lib.hid (MsAt.below12 h2 hb1)
  by_cases hk : a.kd = 2
  · cases hgd : a.good isTx with
    | true =>
      refine (ask24_any es a av _ has desc m _ n B gb w h h1 h2 hm hn hng hlab hT hk hgd).mono ?_
      intro x w' hx
      unfold AskP24 at hx
      unfold AskP4
      obtain ⟨hb, v, srt, hso, hx, he⟩ := hx
      exact ⟨hb, .inr (.inr ⟨hk, hgd, v, srt, hso, hx, he.mono (fun _ hb _ => hb) (fun _ _ _ => trivial)⟩)⟩
    | false =>
      unfold mkV
      have HAS := Lib.hid (as2_yes a hk av mv w1 H2.out g3)
      obtain ⟨dv, hdv⟩ : ∃ v, v = a.dyn av mv := ⟨_, rfl⟩
      have HDG := Lib.hid (fun W (hW : Below w1.heap.size w1 W) => ownGood_any a av mv W (H1.out.below hW) (MsAt.below12 H2.out hW) fun h2 hne => Utf8Tabs_below (Utf8Tabs_below (hT h2 hne) hb1) hW)
      rw [← hdv] at HAS HDG ⊢
      have HKD := Lib.hid hk
      rw [hgd] at HDG
      have HGF := Lib.hid hgd
      clear h h1 h2 hm hn hng hlab hT g1 g2 g3 g4 hw1 hb1 hk1 hk hdv hgd
      go_enter Tryz.func144, Tryz.ntmps144
      go_upto_region 1 with fail
      rw [HW1.out]
      go_wp2_with fail
      refine HAS.out.mono ?_
      rintro x w2 ⟨v2, rfl, hx2, hb2⟩
      obtain ⟨qa, qc, rfl, _, _⟩ := id hx2
      obtain ⟨w3, hw3⟩ : ∃ w3, w3 = w2.alloc (.cells #[.int .i64 a.src, .int .i64 a.til, .slice qa a.mat.length qc] 76) := ⟨_, rfl⟩
      have hb3 : Below w2.heap.size w2 w3 := by rw [hw3]; exact (Below.refl _ w2).alloc (Nat.le_refl _) _
      have hk3 : Bl w3 w2.heap.size 76 #[.int .i64 a.src, .int .i64 a.til, .slice qa a.mat.length qc] := by rw [hw3]; exact Bl.new w2 76 _
      have HB3 := Lib.hid (below_mid hb2 hb3)
      have HG3 := Lib.hid (HDG.out w3 HB3.out)
      have HW3 := Lib.hid hw3.symm
      have HX3 := Lib.hid (MsAt.below12 hx2 hb3)
      have HK3 := Lib.hid hk3
      clear hb2 hb3 hk3 hw3 hx2 HAS
      generalize hQ : w2.heap.size = Q at HK3
      have HQ := Lib.hid hQ
      clear hQ
      go_upto_region 4 with fail
      rw [HW3.out, HQ.out]
      go_wp2_with (go_at_call 75; refine HG3.out.mono ?_; rintro x w4 ⟨rfl, hb4⟩)
      refine bodyPost_ret (v := .tuple #[.slice none 0 0, .bool false, .int .i64 1]) (by simp [results, Tryz.results144, go_sem]) rfl ⟨below_mid HB1.out (below_mid HB3.out hb4), .inr (.inl ⟨HKD.out, HGF.out, rfl⟩)⟩
  · unfold mkV
    have HAS := Lib.hid (as2_no a hk av mv w1 H1.out H2.out g1 g2 g3)
    obtain ⟨dv, hdv⟩ : ∃ v, v = a.dyn av mv := ⟨_, rfl⟩
    rw [← hdv] at HAS ⊢
    have HKD := Lib.hid hk
    clear h h1 h2 hm hn hng hlab hT g1 g2 g3 g4 hw1 hb1 hk1 hk hdv
    go_enter Tryz.func144, Tryz.ntmps144
    go_upto_region 1 with fail
    rw [HW1.out]
    go_wp2_with (go_at_call 148; refine HAS.out.mono ?_; rintro x w2 ⟨rfl, hb2⟩)
    refine bodyPost_ret (v := .tuple #[.slice none 0 0, .bool false, .int .i64 12]) (by simp [results, Tryz.results144, go_sem]) rfl ⟨below_mid HB1.out (below_mid hb2 ((Below.refl _ w2).alloc (Nat.le_refl _) _)), .inl ⟨HKD.out, rfl⟩⟩
end Go.Proofs.YtoobjjpheegmdaaGreat.E4
namespace Go.Proofs.YtoobjjpheegmdaaGreat.E4.M
open Go
theorem parts (l : List UInt8) : Cont l ∨ ∃ l0 c r, l = l0 ++ c :: r ∧ Cont l0 ∧ c.toNat < 128 := by
  induction l with
  | nil => exact .inl (fun _ h => by cases h)
  | cons d t ih =>
    by_cases hd : d.toNat < 128
    · exact .inr ⟨[], d, t, rfl, (fun _ h => by cases h), hd⟩
    · rcases ih with ih | ⟨l0, c, r, rfl, h0, hc⟩
      · refine .inl fun x hx => ?_
        rcases List.mem_cons.1 hx with rfl | hx
        · omega
        · exact ih x hx
      · refine .inr ⟨d :: l0, c, r, rfl, fun x hx => ?_, hc⟩
        rcases List.mem_cons.1 hx with rfl | hx
        · omega
        · exact h0 x hx
def NoNum (l : List UInt8) : Prop := ∀ l0 c r, IsNum l0 c → l ≠ l0 ++ c :: r
theorem num_or (l : List UInt8) : (∃ l0 c r, l = l0 ++ c :: r ∧ IsNum l0 c) ∨ NoNum l := by
  rcases parts l with h | ⟨l0, c, r, rfl, h0, hc⟩
  · refine .inr fun l0 c r hn e => ?_
    have := h c (by rw [e]; simp)
    have := hn.last
    omega
  · by_cases hn : IsNum l0 c
    · exact .inl ⟨l0, c, r, rfl, hn⟩
    · refine .inr fun m0 d t hm e => hn ?_
      obtain ⟨rfl, rfl, rfl⟩ := parts_unique h0 hc hm.cont hm.last e
      exact hm
end Go.Proofs.YtoobjjpheegmdaaGreat.E4.M
namespace Go.Proofs.YtoobjjpheegmdaaGreat.E4
open Go.RowKit Go
end Go.Proofs.YtoobjjpheegmdaaGreat.E4
namespace Go.Proofs.YtoobjjpheegmdaaGreat.E4
open Go.RowKit Go
end Go.Proofs.YtoobjjpheegmdaaGreat.E4
namespace Go.Proofs.YtoobjjpheegmdaaGreat.E4
open Go.RowKit Go
end Go.Proofs.YtoobjjpheegmdaaGreat.E4
namespace Go.Proofs.YtoobjjpheegmdaaGreat.E4
open Go.RowKit Go
end Go.Proofs.YtoobjjpheegmdaaGreat.E4
namespace Go.Proofs.YtoobjjpheegmdaaGreat.E4.MW
open Go
end Go.Proofs.YtoobjjpheegmdaaGreat.E4.MW
namespace Go.Proofs.YtoobjjpheegmdaaGreat.E4
open Go.RowKit Go
end Go.Proofs.YtoobjjpheegmdaaGreat.E4
namespace Go.Proofs.YtoobjjpheegmdaaGreat.E4
open Go.RowKit Go
end Go.Proofs.YtoobjjpheegmdaaGreat.E4
