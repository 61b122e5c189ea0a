/-
  PACKAGE lex: text.
-/
import Derived.Test.YtpchlnikcdhklaaDoorOwnTok
namespace Go.Proofs.YtpchlnikcdhklaaDoor
open Go.RowKit Go

theorem info21 : (Tryd.prog.info? 21).map (fun i => (i.zero, i.size, i.bytes)) = some (some (.int .i32 0), 1, 4) := by kernel_rfl

theorem elem21 : ∃ i z, Elem Tryd.prog 74 21 i z 1 4 := by
  obtain ⟨i, hi, hz, hs, hb⟩ := info_parts info21
  exact ⟨i, _, Tryd.underlying74, hi, hz, hs, hb, by kernel_rfl⟩

theorem src_rune (w : World) (g : Nat) (hg : g = w.heap.size) (c : Nat) : Src Tryd.prog 1 74 (.slice (some ⟨g, 0, none⟩) 1 1) 1 [.int .i32 (c : Int)] (w.alloc (.cells #[.int .i32 (c : Int)] 21)) := by
  subst hg
  refine Src.ofSlice _ Tryd.underlying74 ⟨w.heap.size, 0, none⟩ 1 1 _ rfl (fun j u hu => ?_) (fun u hu => ?_)
  · rw [add_lit0]
    rw [World.cell?_alloc_new]
    simpa using hu
  · simp only [List.mem_singleton] at hu
    subst hu
    rfl

/-- Runes, as they lie. -/
def runeC (rs : List Nat) : List Value := rs.map fun r : Nat => Value.int .i32 (r : Int)

theorem runeC_snoc (rs : List Nat) (c : Nat) : runeC (rs ++ [c]) = runeC rs ++ [.int .i32 (c : Int)] := by
  unfold runeC
  rw [List.map_append]
  rfl

theorem convert_runes {G : Nat → Prop} {w : World} {v : Value} {rs : List Nat} (h : Rk 1 G w v rs.length (runeC rs)) : (convert 74 9 v).run Tryd.prog w = .ok (.string ⟨(LX.enc rs).toArray⟩) w := by
  obtain ⟨_, ⟨rfl, h0⟩ | ⟨g, cap, rfl, _, hlt, _, _, hc, _⟩⟩ := h
  · obtain rfl : rs = [] := List.eq_nil_of_length_eq_zero h0
    exact run_convert_runes_nil w 74 9 21 0 0 Tryd.underlying74 Tryd.underlying21 Tryd.underlying9
  · have := run_convert_runes (P := Tryd.prog) w 74 9 21 ⟨g, 0, none⟩ rs.length cap (rs.map fun r : Nat => (r : Int)) (by simp) Tryd.underlying74 Tryd.underlying21 Tryd.underlying9 (fun j hj => by
      have hj' : j < rs.length := by simpa using hj
      rw [add_lit0, hc j (by simpa [runeC] using hj')]
      simp [runeC, List.getElem?_map, List.getD_eq_getElem?_getD, List.getElem?_eq_getElem hj'])
    rw [this, List.take_of_length_le (by simp), LX.runes_bytes]

/-- What text answers. -/
def textV : Option (List UInt8 × Nat) → Value
  | some q => .tuple #[.agg #[.int .i64 4, .string ⟨q.1.toArray⟩, .int .i64 0, .int .i64 0], .int .i64 ((q.2 : Nat) + 1)]
  | none => .tuple #[.agg #[.int .i64 0, .string ⟨#[]⟩, .int .i64 0, .int .i64 0], .int .i64 0]

theorem textV_some (a : List UInt8) (n : Nat) : textV (some (a, n + 1)) = .tuple #[.agg #[.int .i64 4, .string ⟨a.toArray⟩, .int .i64 0, .int .i64 0], .int .i64 ((n : Int) + 2)] := by
  unfold textV
  simp only
  rw [show (((n + 1 : Nat) : Int) + 1) = (n : Int) + 2 by omega]

/-- Behind the append of a rune. -/
theorem rune_app {B : Nat} {X : Nat → Prop} {w W w2 : World} {o : Obj} {v v' : Value} {rs : List Nat} {c : Nat} (hb : Below w.heap.size w W) (hrk : Rk 1 (fun b => B ≤ b) W v rs.length (runeC rs)) (hB : w.heap.size ≤ B) (hBW : B ≤ W.heap.size)
    (h2 : Rk 1 (fun b => B ≤ b ∧ X b) w2 v' (rs.length + 1) (runeC rs ++ [.int .i32 (c : Int)])) (hk : Keep (At v) (W.alloc o) w2) :
    Rk 1 (fun b => B ≤ b) w2 v' (rs ++ [c]).length (runeC (rs ++ [c])) ∧ Below w.heap.size w w2 ∧ ∀ b, b < B → w2.heap[b]? = W.heap[b]? := by
  rw [← runeC_snoc] at h2
  refine ⟨by rw [List.length_append]; exact h2.mono fun b h _ => h.1, ?_, fun b hbB => ?_⟩
  · have h3 : Below w.heap.size w (W.alloc o) := hb.alloc hb.size _
    exact h3.trans (hk.below (fun b ha => Nat.le_trans hB (hrk.at ha).1) h3.size)
  · rw [hk.block b (by simp; omega) (fun ha => by have := (hrk.at ha).1; omega)]
    exact Below.heap_alloc W o b (by omega)

theorem stepN_le (st c : Nat) : LX.stepN st c ≤ 3 := by
  unfold LX.stepN
  repeat' split
  all_goals omega

set_option maxHeartbeats 4000000 in
set_option maxRecDepth 100000 in
theorem text_any (s : ByteArray) (hs : s.size ≤ 1048576) (hu : LX.U8 s.data.toList) (w : World) :
    Calls Tryd.prog 38 #[.string s] w fun e w' => e = .returned (textV (LX.text s.data.toList)) ∧ Below w.heap.size w w' := by
  obtain ⟨i21, z21, E21⟩ := elem21
  have hsz : s.data.toList.length = s.size := (Lib.size_eq s).symm
  have HZ := Lib.hid hsz
  have HU := Lib.hid hu
  have HBX := Lib.hid (newTok_bx w)
  have HBW := Lib.hid (newTok_below w)
  have HSW := Lib.hid (newTok_size w)
  clear hsz hu
  go_enter Tryd.func38, Tryd.ntmps38
  go_wp2_with fail
  go_loopw [4, 5] (fun v vs wr => ∃ (pos st : Nat) (rs : List Nat), vs = .int .i64 (st : Int) ∧ wr.heap[w.heap.size + 1]? = some (.stringIter s pos) ∧ Below w.heap.size w wr ∧ Bx wr w.heap.size (.int .i64 0) (.string ⟨#[]⟩) (.int .i64 0) (.int .i64 0) ∧
    Rk 1 (fun b => w.heap.size + 2 ≤ b) wr v rs.length (runeC rs) ∧ pos ≤ s.size ∧ LX.TI s.data.toList pos st rs) (fun _ _ wr => s.size - wr.iterPos (w.heap.size + 1))
  case atStart =>
    refine ⟨0, 0, [], rfl, ?_, HBW.out.alloc HBW.out.size _, HBX.out.carry (Below.heap_alloc _ _ _ (by simp)), Rk.nil 1 _ _, Nat.zero_le _, LX.TI.start HU.out⟩
    have := World.iter_heap (newTok w) s 0
    rw [HSW.out] at this
    exact this
  case round =>
    obtain ⟨pos, st, rs, rfl, hit, hb, hbx, hrk, hp, hti⟩ := hrel
    by_cases hlt : pos < s.size
    · obtain ⟨c, n, hd⟩ : ∃ c n, MW.dec (s.data.toList.drop pos) = (c, n) := ⟨_, _, rfl⟩
      have hn := MW.dec_drop (l := s.data.toList) (pos := pos) (by rw [HZ.out]; exact hlt)
      rw [hd, HZ.out] at hn
      simp only at hn
      have hne : s.data.toList.drop pos ≠ [] := by
        intro e
        have := congrArg List.length e
        rw [List.length_drop, HZ.out] at this
        simp at this
        omega
      have hnext := hti.next hne hd
      have hnx := fun ty => next_at wr _ s pos ty hit hlt c n hd
      have hit1 := Lib.iterAt_heap wr _ s pos (pos + n) hit
      have hb1 := Lib.below_iterAt hb (k := w.heap.size + 1) (Nat.le_succ _) s (pos + n)
      have hoth : ∀ b, b ≠ w.heap.size + 1 → (wr.iterAt (w.heap.size + 1) s (pos + n)).heap[b]? = wr.heap[b]? := fun b h => Lib.iterAt_other wr _ b s (pos + n) h
      have hsz1 := Lib.iterAt_size wr (w.heap.size + 1) s (pos + n)
      have hrl := hti.len
      obtain ⟨W, hW⟩ : ∃ W, W = wr.iterAt (w.heap.size + 1) s (pos + n) := ⟨_, rfl⟩
      rw [← hW] at hit1 hb1 hoth hsz1
      have hwl : w.heap.size + 2 ≤ W.heap.size := (Array.getElem?_eq_some_iff.1 hit1).1
      have HIT := Lib.hid hit1
      have HB := Lib.hid hb1
      have HX := Lib.hid (hbx.carry (hoth _ (by omega)))
      have HRK := Lib.hid (hrk.carry (Nat.le_of_eq hsz1.symm) (fun b hb _ _ => hoth b (by omega)))
      have HN := Lib.hid hnext
      have HP0 := Lib.hid (iterPos_of hit)
      have HWL := Lib.hid hwl
      have HS := Lib.hid (step_any st c W)
      obtain ⟨ao, co, rfl⟩ := hrk.shape
      obtain ⟨r, hr⟩ : ∃ r, LX.stepN st c = r := ⟨_, rfl⟩
      have hr3 := stepN_le st c
      rw [hr] at HN HS hr3
      have hnx' : ∀ ty, (Instr.next (.pointer (some ⟨w.heap.size + 1, 0, none⟩)) true ty).run Tryd.prog wr = .ok (.tuple #[.bool true, .int .i64 (pos : Int), .int .i32 (c : Int)]) W := fun ty => by rw [hW]; exact hnx ty
      clear hnx hd hne hnext hit hb hbx hrk hit1 hb1 hoth hsz1 hwl hr hti hW
      obtain rfl | rfl | rfl | rfl : r = 0 ∨ r = 1 ∨ r = 2 ∨ r = 3 := by omega
      · go_wp2_with fail
        refine HS.out.mono ?_
        rintro e w' ⟨rfl, rfl⟩
        go_wp2_with (at_builtin; refine wpList_append_rk E21 _ rfl _ _ 74 rfl (G := fun b => w.heap.size + 2 ≤ b) rfl (Rk.alloc HRK.out _) ?c1 (.slice (some ⟨W.heap.size, 0, none⟩) 1 1) 1 [.int .i32 (c : Int)] rfl (src_rune _ _ rfl c) ?c2 ?c3 ?_)
        case c1 => intro b h; have := HWL.out; simp at h; omega
        case c2 => omega
        case c3 => omega
        intro v' w2 hrk2 hk2
        obtain ⟨hr3, hb3, ho3⟩ := rune_app HB.out HRK.out (Nat.le_add_right _ _) HWL.out hrk2 hk2
        have HR3 := Lib.hid hr3
        have HB3 := Lib.hid hb3
        have HX3 := Lib.hid (HX.out.carry (ho3 _ (by omega)))
        have HIT3 := Lib.hid ((ho3 _ (by omega)).trans HIT.out)
        clear hrk2 hk2 hr3 hb3 ho3
        go_wp2_with fail
        go_roundw
        case rel => exact ⟨pos + n, 0, rs ++ [c], rfl, HIT3.out, HB3.out, HX3.out, HR3.out, by omega, HN.out.1 trivial⟩
        case measure => rw [HP0.out, iterPos_of HIT3.out]; omega
      · go_wp2_with fail
        refine HS.out.mono ?_
        rintro e w' ⟨rfl, rfl⟩
        go_wp2_with fail
        go_roundw
        case rel => exact ⟨pos + n, 1, rs, rfl, HIT.out, HB.out, HX.out, HRK.out, by omega, HN.out.2.1 trivial⟩
        case measure => rw [HP0.out, iterPos_of HIT.out]; omega
      · have hcv := convert_runes HRK.out
        have HT : Hid (LX.text s.data.toList = some (LX.enc rs, pos + 1)) := Lib.hid (HN.out.2.2.1 rfl)
        obtain ⟨c0, c1, c2, c3, f0, f1, f2, f3⟩ := HX.out
        go_wp2_with fail
        refine HS.out.mono ?_
        rintro e w' ⟨rfl, rfl⟩
        go_wp2_with fail
        have hq := HX.out.all (.int .i64 4) (.string ⟨(LX.enc rs).toArray⟩) (.int .i64 0) (.int .i64 0)
        unfold stored at hq
        obtain ⟨q0, q1, q2, q3, _, _, _, _⟩ := hq
        refine bodyPost_ret (v := .tuple #[.agg #[.int .i64 4, .string ⟨(LX.enc rs).toArray⟩, .int .i64 0, .int .i64 0], .int .i64 ((pos : Int) + 2)]) (by simp [results, Tryd.results38, go_sem, q0, q1, q2, q3]) rfl ?_
        refine ⟨?_, below_stored HB.out (Nat.le_refl _) _ _ _ _⟩
        rw [HT.out, textV_some]
      · have HT : Hid (LX.text s.data.toList = none) := Lib.hid (HN.out.2.2.2 rfl)
        obtain ⟨c0, c1, c2, c3, f0, f1, f2, f3⟩ := HX.out
        go_wp2_with fail
        refine HS.out.mono ?_
        rintro e w' ⟨rfl, rfl⟩
        go_wp2_with fail
        have hq := HX.out.all (.int .i64 0) (.string ⟨#[]⟩) (.int .i64 0) (.int .i64 0)
        unfold stored at hq
        obtain ⟨q0, q1, q2, q3, _, _, _, _⟩ := hq
        refine bodyPost_ret (v := .tuple #[.agg #[.int .i64 0, .string ⟨#[]⟩, .int .i64 0, .int .i64 0], .int .i64 0]) (by simp [results, Tryd.results38, go_sem, q0, q1, q2, q3]) rfl ?_
        exact ⟨by rw [HT.out]; rfl, below_stored HB.out (Nat.le_refl _) _ _ _ _⟩
    · obtain rfl : pos = s.size := by omega
      have hnx := fun ty => Lib.run_next_end_at (P := Tryd.prog) wr _ s s.size ty hit hlt
      have HT : Hid (LX.text s.data.toList = none) := Lib.hid (hti.none (List.drop_of_length_le (by rw [HZ.out]; exact Nat.le_refl _)))
      have HB := Lib.hid hb
      have HX := Lib.hid hbx
      obtain ⟨c0, c1, c2, c3, f0, f1, f2, f3⟩ := hbx
      clear hb hit hrk hti
      go_wp2_with fail
      have hq := HX.out.all (.int .i64 0) (.string ⟨#[]⟩) (.int .i64 0) (.int .i64 0)
      unfold stored at hq
      obtain ⟨q0, q1, q2, q3, _, _, _, _⟩ := hq
      refine bodyPost_ret (v := .tuple #[.agg #[.int .i64 0, .string ⟨#[]⟩, .int .i64 0, .int .i64 0], .int .i64 0]) (by simp [results, Tryd.results38, go_sem, q0, q1, q2, q3]) rfl ?_
      exact ⟨by rw [HT.out]; rfl, below_stored HB.out (Nat.le_refl _) _ _ _ _⟩

end Go.Proofs.YtpchlnikcdhklaaDoor
