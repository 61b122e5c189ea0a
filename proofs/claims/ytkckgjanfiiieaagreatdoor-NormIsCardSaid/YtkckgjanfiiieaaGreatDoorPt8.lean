/-
  PACKAGE show: putKid, putKids.
-/
import Derived.Test.YtkckgjanfiiieaaGreatDoorOq8
import Derived.Test.YtkckgjanfiiieaaGreatDoorTxA
namespace Go.Proofs.YtkckgjanfiiieaaGreatDoor
open Go.RowKit Go

theorem elem5 : ∃ i z, Elem Tryz.prog 70 5 i z 1 1 := by
  obtain ⟨i, hi, hz, hs, hb⟩ := info_parts info5
  exact ⟨i, _, Tryz.underlying70, hi, hz, hs, hb, by kernel_rfl⟩

/-- A row of bytes that lies behind W0, and W0 is as it was. -/
structure Bw (W0 w : World) (v : Value) (l : List UInt8) : Prop where
  rk : Rk 1 (fun b => W0.heap.size ≤ b) w v l.length (Lib.byteCells l)
  low : Below W0.heap.size W0 w

theorem Bw.next {W0 w w' : World} {v : Value} {l : List UInt8} (h : Bw W0 w v l) (hb : Below w.heap.size w w') : Bw W0 w' v l :=
  ⟨h.rk.carry hb.size (fun k _ _ hk => hb.block k hk), h.low.trans (hb.mono h.low.size)⟩
theorem Bw.alloc {W0 w : World} {v : Value} {l : List UInt8} (h : Bw W0 w v l) (o : Obj) : Bw W0 (w.alloc o) v l := h.next ((Below.refl _ w).alloc (Nat.le_refl _) o)
theorem Bw.drew {W0 w : World} {v : Value} {l : List UInt8} (h : Bw W0 w v l) : Bw W0 w.drew v l := h.next (Below.refl _ w).drew
theorem Bw.nil (W0 : World) : Bw W0 W0 (.slice none 0 0) [] := ⟨Rk.nil _ _ _, Below.refl _ _⟩
theorem Bw.off {W0 w : World} {v : Value} {l : List UInt8} (h : Bw W0 w v l) {A : Nat} (hA : w.heap.size ≤ A) : ¬ At v A := fun hk => absurd (h.rk.at hk).2 (by omega)

theorem Bw.app {W0 w w' : World} {v v' : Value} {l : List UInt8} {m n : Nat} {ys : List Value} (h : Bw W0 w v l) (s : List UInt8) (hm : m = s.length) (hy : ys = Lib.byteCells s) (hr : Rk 1 (fun k => W0.heap.size ≤ k ∧ (At v k ∨ n ≤ k)) w' v' (l.length + m) (Lib.byteCells l ++ ys)) (hk : Keep (At v) w w') : Bw W0 w' v' (l ++ s) := by
  subst hm hy
  refine ⟨?_, h.low.trans (Keep.below hk (fun k hk => (h.rk.at hk).1) h.low.size)⟩
  have e : Lib.byteCells (l ++ s) = Lib.byteCells l ++ Lib.byteCells s := by unfold Lib.byteCells; rw [List.map_append]
  rw [List.length_append, e]
  exact hr.mono fun k hk _ => hk.1

/-- Where such a row ends. -/
def PutP (W0 : World) (l : List UInt8) (e : Ending) (w' : World) : Prop := ∃ v', e = .returned v' ∧ Bw W0 w' v' l

theorem src_byte (w : World) (g : Nat) (hg : g = w.heap.size) (n : Int) : Src Tryz.prog 1 70 (.slice (some ⟨g, 0, none⟩) 1 1) 1 [.int .u8 n] (w.alloc (.cells #[.int .u8 n] 5)) := by
  subst hg
  refine Src.ofSlice _ Tryz.underlying70 ⟨w.heap.size, 0, none⟩ 1 1 _ rfl (fun j u hu => ?_) (fun u hu => ?_)
  · rw [add_lit0]
    rw [World.cell?_alloc_new]
    simpa using hu
  · simp only [List.mem_singleton] at hu
    subst hu
    rfl

/-- What put does of a filter. -/
def Puts (k : Ft) (W0 : World) : Prop := ∀ (kv : Value) (w : World) (v : Value) (l : List UInt8), KsAt W0 kv k → Bw W0 w v l → l.length + (fText k).length ≤ 1000000000 → Calls Tryz.prog 47 #[v, k.val kv] w (PutP W0 (l ++ fText k))

set_option maxHeartbeats 4000000 in
set_option maxRecDepth 100000 in
theorem putKid_of {k : Ft} {W0 : World} (hP : Puts k W0) (hop : k.op ≤ 8) (kv : Value) (w : World) (v : Value) (l : List UInt8) (hk : KsAt W0 kv k) (hb : Bw W0 w v l) (hl : l.length + (kText k).length ≤ 1000000000) : Calls Tryz.prog 83 #[v, k.val kv] w (PutP W0 (l ++ kText k)) := by
  obtain ⟨i5, z5, E5⟩ := elem5
  obtain ⟨W1, hW1⟩ : ∃ W1, W1 = w.alloc (.cells #[.int .i64 k.op, .string k.name, .string k.text, kv] 26) := ⟨_, rfl⟩
  have HW := Lib.hid hW1.symm
  have HB1 : Hid (Bw W0 W1 v l) := Lib.hid (by rw [hW1]; exact hb.alloc _)
  have HC1 : Hid (CB W1 w.heap.size 26 #[.int .i64 k.op, .string k.name, .string k.text, kv]) := Lib.hid (by rw [hW1]; exact CB.new w 26 _)
  have HOF : Hid (¬ At v w.heap.size) := Lib.hid (hb.off (Nat.le_refl _))
  have HP := Lib.hid hP
  have HK := Lib.hid hk
  clear hW1 hP hk
  obtain ⟨av, cv, hvs⟩ := hb.rk.shape
  clear hb
  obtain ⟨ak, ck, hks⟩ := HK.out.shape
  by_cases h78 : k.op = 7 ∨ k.op = 8
  · have HKT : Hid (kText k = 40 :: (fText k ++ [41])) := Lib.hid (by unfold kText; rw [if_pos (by omega)])
    have hfl : l.length + (fText k).length + 2 ≤ 1000000000 := by rw [HKT.out] at hl; simp at hl; omega
    clear hl
    have c0 := HC1.out.cell 0
    have c1 := HC1.out.cell 1
    have c2 := HC1.out.cell 2
    have c3 := HC1.out.cell 3
    have d7 : (k.op != 7) = false ∨ ((k.op != 7) = true ∧ (k.op != 8) = false) := by
      rcases h78 with h | h
      · left; simp [h]
      · right; simp [h]
    clear h78
    subst hvs hks
    rcases d7 with d7 | ⟨d7, d8⟩
    all_goals
      simp only [Ft.val]
      go_enter Tryz.func83, Tryz.ntmps83
      go_upto_region 1 with fail
      rw [HW.out]
      go_wp2_with (at_builtin; refine wpList_append_rk E5 _ rfl _ _ 70 rfl (G := fun b => W0.heap.size ≤ b) rfl (HB1.out.alloc _).rk ?c1 _ 1 [.int .u8 40] rfl (src_byte W1 _ rfl 40) ?c2 ?c3 ?_)
      case c1 => intro j hj; exact Nat.le_trans (HB1.out.alloc _).low.size hj
      case c2 => omega
      case c3 => omega
      intro v2 w2 hr2 hk2
      have HB2 := Lib.hid ((HB1.out.alloc _).app [40] rfl rfl hr2 hk2)
      have HC2 := Lib.hid ((HC1.out.keep ((Keep.refl (fun _ => False) W1).alloc _) (fun h => h)).keep hk2 HOF.out)
      have HP2 := Lib.hid (HP.out _ w2 v2 _ HK.out HB2.out (by simp; omega))
      clear hr2 hk2 c0 c1 c2 c3
      have c0 := HC2.out.cell 0
      have c1 := HC2.out.cell 1
      have c2 := HC2.out.cell 2
      have c3 := HC2.out.cell 3
      go_wp2_with fail
      refine HP2.out.mono ?_
      rintro e w3 ⟨v3, rfl, hb3⟩
      obtain ⟨L3, hL3⟩ : ∃ L3, L3 = l ++ [40] ++ fText k := ⟨_, rfl⟩
      rw [← hL3] at hb3
      have h3l : L3.length ≤ 999999999 := by rw [hL3]; simp; omega
      have HL3 := Lib.hid hL3
      have HB3 := Lib.hid hb3
      clear hb3 HP2 c0 c1 c2 c3 hL3
      go_wp2_with (at_builtin; refine wpList_append_rk E5 _ rfl _ _ 70 rfl (G := fun b => W0.heap.size ≤ b) rfl (HB3.out.alloc _).rk ?d1 _ 1 [.int .u8 41] rfl (src_byte w3 _ rfl 41) ?d2 ?d3 ?_)
      case d1 => intro j hj; exact Nat.le_trans (HB3.out.alloc _).low.size hj
      case d2 => omega
      case d3 => omega
      intro v4 w4 hr4 hk4
      have HB4 := Lib.hid ((HB3.out.alloc _).app [41] rfl rfl hr4 hk4)
      clear hr4 hk4
      go_wp2_with fail
      go_ret
      exact ⟨_, rfl, by rw [HKT.out]; have := HB4.out; rw [HL3.out] at this; simpa using this⟩
  · have HKT : Hid (kText k = fText k) := Lib.hid (by unfold kText; rw [if_neg (by omega)])
    rw [HKT.out] at hl
    have c0 := HC1.out.cell 0
    have c1 := HC1.out.cell 1
    have c2 := HC1.out.cell 2
    have c3 := HC1.out.cell 3
    have d7 : (k.op != 7) = true := by simp; omega
    have d8 : (k.op != 8) = true := by simp; omega
    have HP2 := Lib.hid (HP.out _ W1 v _ HK.out HB1.out hl)
    clear h78
    subst hvs hks
    simp only [Ft.val] at HP2 ⊢
    go_enter Tryz.func83, Tryz.ntmps83
    go_upto_region 1 with fail
    rw [HW.out]
    go_wp2_with fail
    refine HP2.out.mono ?_
    rintro e w3 ⟨v3, rfl, hb3⟩
    have HB3 := Lib.hid hb3
    clear hb3 HP2 c0 c1 c2 c3
    go_wp2_with fail
    go_ret
    exact ⟨_, rfl, by rw [HKT.out]; exact HB3.out⟩

set_option maxHeartbeats 8000000 in
set_option maxRecDepth 100000 in
theorem putKids_of {ks : List Ft} {W0 : World} {wd : List UInt8} (hP : ∀ k ∈ ks, Puts k W0) (hop : ∀ k ∈ ks, k.op ≤ 8) (sep : ByteArray) (hs : 1 < ks.length → sep.data.toList = 32 :: (wd ++ [32])) (hss : sep.size ≤ 10) (b off cap : Nat) (hka : KAt W0 b off ks) (hbl : b < W0.heap.size) (_hne : ks ≠ [])
    (w : World) (v : Value) (l : List UInt8) (hb : Bw W0 w v l) (hl : l.length + (rText wd ks).length ≤ 1000000000) (hkl : ks.length ≤ 9223372036854775807) : Calls Tryz.prog 67 #[v, .slice (some ⟨b, off, none⟩) ks.length cap, .string sep] w (PutP W0 (l ++ rText wd ks)) := by
  obtain ⟨i5, z5, E5⟩ := elem5
  have HP := Lib.hid hP
  have HOP := Lib.hid hop
  have HS := Lib.hid hs
  have HKA := Lib.hid (KAt.get hka)
  have HB := Lib.hid hb
  have HL := Lib.hid hl
  clear hP hop hs hka hb hl
  go_enter Tryz.func67, Tryz.ntmps67
  go_wp2_with fail
  go_loopw [0, 11] (fun vb vi wr => ∃ i : Nat, vi = .int .i64 i ∧ i ≤ ks.length ∧ Hid (Bw W0 wr vb (l ++ rText wd (ks.take i)))) (fun _ vi _ => ks.length - (intOf vi).toNat)
  case atStart => exact ⟨0, rfl, Nat.zero_le _, Lib.hid (by simpa [rText] using HB.out)⟩
  case round =>
    obtain ⟨i, rfl, hi, HBR⟩ := hrel
    obtain ⟨L, hLL⟩ : ∃ L, L = l ++ rText wd (ks.take i) := ⟨_, rfl⟩
    have hll : L.length ≤ 1000000000 := by
      have := rText_take wd ks i
      have := HL.out
      rw [hLL, List.length_append]
      omega
    rw [← hLL] at HBR
    have HLL := Lib.hid hLL
    clear hLL
    by_cases hlt : i < ks.length
    · have HN := Lib.hid (rText_next wd hlt)
      have HNL : Hid ((rText wd (ks.take (i + 1))).length ≤ (rText wd ks).length) := Lib.hid (rText_take wd ks (i + 1))
      obtain ⟨kv, x0, x1, x2, x3, hkk⟩ := HKA.out i hlt
      have hmem : ks[i] ∈ ks := List.getElem_mem hlt
      have HPK := Lib.hid (HP.out ks[i] hmem)
      have HOK := Lib.hid (HOP.out ks[i] hmem)
      have HKK := Lib.hid hkk
      have y0 := (World.cell?_of_block (a := ⟨b, off + i * 4, none⟩) (HBR.out.low.block b hbl)).trans x0
      have y1 := (World.cell?_of_block (a := ⟨b, off + i * 4 + 1, none⟩) (HBR.out.low.block b hbl)).trans x1
      have y2 := (World.cell?_of_block (a := ⟨b, off + i * 4 + 2, none⟩) (HBR.out.low.block b hbl)).trans x2
      have y3 := (World.cell?_of_block (a := ⟨b, off + i * 4 + 3, none⟩) (HBR.out.low.block b hbl)).trans x3
      clear x0 x1 x2 x3 hkk hmem
      generalize ks[i] = k at y0 y1 y2 y3 HN HPK HOK HKK
      obtain ⟨W1, hW1⟩ : ∃ W1, W1 = wr.alloc (.cells #[.int .i64 k.op, .string k.name, .string k.text, kv] 26) := ⟨_, rfl⟩
      have HW := Lib.hid hW1.symm
      have HB1 := Lib.hid (show Bw W0 W1 _ _ by rw [hW1]; exact HBR.out.alloc _)
      have HC1 : Hid (CB W1 wr.heap.size 26 #[.int .i64 k.op, .string k.name, .string k.text, kv]) := Lib.hid (by rw [hW1]; exact CB.new wr 26 _)
      have HOF := Lib.hid (HBR.out.off (Nat.le_refl _))
      clear hW1
      obtain ⟨ak, ck, hks⟩ := HKK.out.shape
      subst hks
      obtain ⟨av, cv, hvs⟩ := HBR.out.rk.shape
      subst hvs
      clear HBR
      go_upto_region 4 with fail
      rw [HW.out]
      clear HW y0 y1 y2 y3
      generalize wr.heap.size = K at HC1 HOF ⊢
      have c0 := HC1.out.cell 0
      have c1 := HC1.out.cell 1
      have c2 := HC1.out.cell 2
      have c3 := HC1.out.cell 3
      by_cases hi0 : i = 0
      · have d0 : decide (0 < (i : Int)) = false := by simp; omega
        have HKD := Lib.hid (putKid_of HPK.out HOK.out _ W1 _ _ HKK.out HB1.out (by
          have h1 := HN.out
          rw [if_pos hi0] at h1
          have h2 := HNL.out
          have h3 := HL.out
          rw [h1] at h2
          rw [HLL.out]
          simp only [List.length_append, List.length_nil] at h2 ⊢
          omega))
        simp only [Ft.val] at HKD
        have d1 : decide (0 < i) = false := by simp; omega
        have d2 : ¬ (0 < i) := by omega
        have HI0 := Lib.hid hi0
        clear hi0
        go_wp2_with fail
        refine HKD.out.mono ?_
        rintro e w3 ⟨v3, rfl, hb3⟩
        have HB3 := Lib.hid hb3
        clear hb3 HKD c0 c1 c2 c3
        go_wp2_with fail
        go_roundw
        case rel =>
          refine ⟨i + 1, by go_num, by omega, Lib.hid ?_⟩
          rw [HN.out, if_pos HI0.out, List.append_nil, ← List.append_assoc, ← HLL.out]
          exact HB3.out
        case measure => simp [intOf]; omega
      · have d0 : decide (0 < (i : Int)) = true := by simp; omega
        have hse := HS.out (by omega)
        have HSE := Lib.hid hse
        have hsz : sep.size = wd.length + 2 := by rw [Lib.size_eq, hse]; simp
        have hlk : L.length + (wd.length + 2) + (kText k).length ≤ 1000000000 := by
          have h1 := HN.out
          rw [if_neg hi0] at h1
          have h2 := HNL.out
          have h3 := HL.out
          rw [h1] at h2
          rw [HLL.out]
          simp only [List.length_append, List.length_cons, List.length_nil] at h2 ⊢
          omega
        have HI0 := Lib.hid hi0
        have HLK := Lib.hid hlk
        have HSZ := Lib.hid hsz
        have d1 : decide (0 < i) = true := by simp; omega
        have d2 : 0 < i := by omega
        clear hi0 hse hlk hsz
        go_wp2_with (at_builtin; refine wpList_append_rk E5 _ rfl _ _ 9 rfl (G := fun b => W0.heap.size ≤ b) rfl HB1.out.rk ?c1 _ sep.size (byteCells sep) rfl (Src.ofString _ Tryz.underlying9 sep) ?c2 ?c3 ?_)
        case c1 => intro j hj; exact Nat.le_trans HB1.out.low.size hj
        case c2 => omega
        case c3 => omega
        intro v2 w2 hr2 hk2
        have HB2 := Lib.hid (HB1.out.app sep.data.toList (Lib.size_eq sep) rfl hr2 hk2)
        have HC2 := Lib.hid (HC1.out.keep hk2 HOF.out)
        clear hr2 hk2 c0 c1 c2 c3
        have HKD := Lib.hid (putKid_of HPK.out HOK.out _ w2 v2 _ HKK.out HB2.out (by
          have h1 := HLK.out
          have h2 := HSZ.out
          have h3 : sep.data.toList.length = sep.size := (Lib.size_eq sep).symm
          rw [List.length_append]
          omega))
        simp only [Ft.val] at HKD
        have c0 := HC2.out.cell 0
        have c1 := HC2.out.cell 1
        have c2 := HC2.out.cell 2
        have c3 := HC2.out.cell 3
        go_wp2_with fail
        refine HKD.out.mono ?_
        rintro e w3 ⟨v3, rfl, hb3⟩
        have HB3 := Lib.hid hb3
        clear hb3 HKD c0 c1 c2 c3
        go_wp2_with fail
        go_roundw
        case rel =>
          refine ⟨i + 1, by go_num, by omega, Lib.hid ?_⟩
          rw [HN.out, if_neg HI0.out]
          have := HB3.out
          rw [HSE.out, HLL.out] at this
          simpa [List.append_assoc] using this
        case measure => simp [intOf]; omega
    · obtain rfl : i = ks.length := by omega
      have HBE : Hid (Bw W0 wr _ (l ++ rText wd ks)) := Lib.hid (by have := HBR.out; rw [HLL.out, List.take_length] at this; exact this)
      clear HBR
      go_wp2_with fail
      go_ret
      exact ⟨_, rfl, HBE.out⟩
end Go.Proofs.YtkckgjanfiiieaaGreatDoor
