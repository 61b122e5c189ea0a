/-
  PACKAGE lex: Lex.
-/
import Derived.Test.YtpchlnikcdhklaaDoorOwnFirst
import Derived.Test.YtpchlnikcdhklaaDoorOwnQuote
import Derived.Test.YtpchlnikcdhklaaDoorLexed
namespace Go.Proofs.YtpchlnikcdhklaaDoor
open Go.RowKit Go

/-- Blanks ahead say nothing. -/
theorem trim_step : ∀ (l : List UInt8) (i : Nat), ∃ j, j ≤ l.length ∧ Lib.trimLeftB l 32 = l.drop j ∧ LX.toks i l = LX.toks (i + j) (l.drop j) ∧ (LX.U8 l → LX.U8 (l.drop j)) ∧ ∀ c r, l.drop j = c :: r → c ≠ 32
  | [], i => ⟨0, Nat.le_refl _, rfl, rfl, fun h => h, fun c r h => by cases h⟩
  | c :: r, i => by
    by_cases h : c = 32
    · subst h
      obtain ⟨j, h1, h2, h3, h4, h5⟩ := trim_step r (i + 1)
      refine ⟨j + 1, by simp only [List.length_cons]; omega, ?_, ?_, fun hu => h4 (hu.tail (by decide)), h5⟩
      · rw [List.drop_succ_cons, ← h2]
        simp [Lib.trimLeftB]
      · rw [LX.toks_blank, h3, List.drop_succ_cons, show i + (j + 1) = i + 1 + j by omega]
    · refine ⟨0, Nat.zero_le _, ?_, rfl, fun hu => hu, fun c' r' e => ?_⟩
      · simp [Lib.trimLeftB, h]
      · rw [List.drop_zero] at e
        cases e
        exact h

theorem info34 : (Tryd.prog.info? 34).map (fun i => (i.zero, i.size, i.bytes)) = some (some (.agg #[.int .i64 0, .string ⟨#[]⟩, .int .i64 0, .int .i64 0]), 4, 40) := by kernel_rfl

theorem elem34 : ∃ i z, Elem Tryd.prog 23 34 i z 4 40 := by
  obtain ⟨i, hi, hz, hs, hb⟩ := info_parts info34
  exact ⟨i, _, Tryd.underlying23, hi, hz, hs, hb, by kernel_rfl⟩

theorem src_own (w : World) (g : Nat) (hg : g = w.heap.size) (t : LX.Tok) (a b c d : Value) (h : tokC t = [a, b, c, d]) : Src Tryd.prog 4 23 (.slice (some ⟨g, 0, none⟩) 1 1) 1 (flatT [t]) (w.alloc (.cells #[a, b, c, d] 34)) := by
  subst hg
  have e : flatT [t] = [a, b, c, d] := by simp only [flatT, List.append_nil, h]
  rw [e]
  refine Src.ofSlice _ Tryd.underlying23 ⟨w.heap.size, 0, none⟩ 1 1 _ rfl (fun j u hu => ?_) (fun u hu => ?_)
  · rw [add_lit0]
    rw [World.cell?_alloc_new]
    simpa using hu
  · have h' := h
    simp only [tokC, List.cons.injEq, and_true] at h'
    obtain ⟨rfl, rfl, rfl, rfl⟩ := h'
    simp only [List.mem_cons, List.not_mem_nil, or_false] at hu
    rcases hu with rfl | rfl | rfl | rfl <;> rfl

/-- Behind the append of a token. -/
theorem own_app {B : Nat} {X : Nat → Prop} {w wr WX w2 : World} {o : Obj} {ao : Option Addr} {co : Nat} {v' : Value} {ts : List LX.Tok} {t : LX.Tok} (hb : Below w.heap.size w wr) (hB : w.heap.size ≤ B) (hBr : B ≤ wr.heap.size)
    (hrk : Rk 4 (fun b => B ≤ b) wr (.slice ao ts.length co) ts.length (flatT ts)) (hlx : Lay wr WX)
    (h2 : Rk 4 (fun b => B ≤ b ∧ X b) w2 v' (ts.length + 1) (flatT ts ++ flatT [t])) (hk : Keep (At (.slice ao ts.length co)) (WX.alloc o) w2) :
    Rk 4 (fun b => B ≤ b) w2 v' (ts ++ [t]).length (flatT (ts ++ [t])) ∧ Below w.heap.size w w2 ∧ ∀ b, b < B → w2.heap[b]? = wr.heap[b]? := by
  rw [← flatT_append] at h2
  have hl : Lay wr (WX.alloc o) := hlx.alloc _
  have h3 : Below w.heap.size w (WX.alloc o) := hb.trans (hl.below.mono hb.size)
  refine ⟨by rw [List.length_append]; exact h2.mono fun b h _ => h.1, h3.trans (hk.below (fun b ha => Nat.le_trans hB (hrk.at ha).1) h3.size), fun b hbB => ?_⟩
  rw [hk.block b (Nat.lt_of_lt_of_le (by omega) hl.size) (fun ha => by have := (hrk.at ha).1; omega)]
  exact hl.block (by omega)

/-- A block of two cells. -/
structure B2 (W : World) (k : Nat) (u0 u1 : Value) : Prop where
  c0 : W.cell? ⟨k, 0, none⟩ = some u0
  c1 : W.cell? ⟨k, 1, none⟩ = some u1
  f0 : W.frozen? ⟨k, 0, none⟩ = false
  f1 : W.frozen? ⟨k, 1, none⟩ = false

theorem B2.carry {W W' : World} {k : Nat} {u0 u1 : Value} (h : B2 W k u0 u1) (hb : W'.heap[k]? = W.heap[k]?) : B2 W' k u0 u1 :=
  ⟨(World.cell?_of_block (a := ⟨k, 0, none⟩) hb).trans h.c0, (World.cell?_of_block (a := ⟨k, 1, none⟩) hb).trans h.c1, (World.frozen?_of_block (a := ⟨k, 0, none⟩) hb).trans h.f0, (World.frozen?_of_block (a := ⟨k, 1, none⟩) hb).trans h.f1⟩

theorem B2.all {W : World} {k : Nat} {u0 u1 : Value} (h : B2 W k u0 u1) (v0 v1 : Value) : B2 ((W.setCell ⟨k, 0, none⟩ v0).setCell ⟨k, 1, none⟩ v1) k v0 v1 := by
  obtain ⟨c0, c1, f0, f1⟩ := h
  exact ⟨by go_simp, by go_simp, by go_simp, by go_simp⟩

theorem below_set2 {n : Nat} {w W : World} {k : Nat} (h : Below n w W) (hk : n ≤ k) (u0 u1 : Value) : Below n w ((W.setCell ⟨k, 0, none⟩ u0).setCell ⟨k, 1, none⟩ u1) :=
  (h.setCell (p := ⟨k, 0, none⟩) hk u0).setCell (p := ⟨k, 1, none⟩) hk u1

theorem rk_set2 {B k : Nat} {W : World} {v : Value} {n : Nat} {xs : List Value} (h : Rk 4 (fun b => B ≤ b) W v n xs) (hk : k < B) (u0 u1 : Value) : Rk 4 (fun b => B ≤ b) ((W.setCell ⟨k, 0, none⟩ u0).setCell ⟨k, 1, none⟩ u1) v n xs :=
  h.carry (by simp [World.setCell]) fun b hb _ _ => (Below.heap_setCell (W.setCell ⟨k, 0, none⟩ u0) ⟨k, 1, none⟩ u1 b (by show b ≠ k; omega)).trans (Below.heap_setCell W ⟨k, 0, none⟩ u0 b (by show b ≠ k; omega))

/-- What is left behind a token. -/
theorem tok_rest {c : UInt8} {r : List UInt8} {k m : Nat} {sy : List UInt8} {n : Int} (h : LX.tok c r = some (k, sy, n, m)) (hu : LX.U8 (c :: r)) : LX.U8 ((c :: r).drop m) := by
  obtain ⟨r0, _, h2, h3, _⟩ := LX.tok_back h hu 0
  rw [← h2] at h3
  exact LX.U8.strip h3 (by rw [List.take_append_drop]; exact hu)

theorem rest_data (x : ByteArray) (m : Nat) : (x.extract m x.size).data.toList = x.data.toList.drop m := by
  rw [Lib.extract_data, List.take_of_length_le]
  rw [List.length_drop, ← Lib.size_eq]
  exact Nat.le_refl _

/-- A new fault. -/
def newFault (w : World) : World := w.alloc (.cells #[.int .i64 0, .int .i64 0] 26)
theorem newFault_b2 (w : World) : B2 (newFault w) w.heap.size (.int .i64 0) (.int .i64 0) := by
  unfold newFault
  exact ⟨by go_simp, by go_simp, by go_simp, by go_simp⟩
theorem newFault_below (w : World) : Below w.heap.size w (newFault w) := (Below.refl _ _).alloc (Nat.le_refl _) _
theorem newFault_size (w : World) : (newFault w).heap.size = w.heap.size + 1 := by unfold newFault; simp

def lenOf : Value → Nat
  | .string s => s.size
  | _ => 0

set_option maxHeartbeats 8000000 in
set_option maxRecDepth 100000 in
theorem lex_any (s : ByteArray) (hlen : s.size ≤ 1048576) (w : World) (hT : Tabs w) : Calls Tryd.prog 9 #[.string s] w (LexP (LX.lex s.data.toList) w) := by
  obtain ⟨i34, z34, E34⟩ := elem34
  have hsz : s.data.toList.length = s.size := (Lib.size_eq s).symm
  have HZ := Lib.hid hsz
  clear hsz
  have HT := Lib.hid hT
  obtain ⟨W, hW⟩ : ∃ W, W = newFault w := ⟨_, rfl⟩
  have hbx := newFault_b2 w
  have hbw := newFault_below w
  have hs1 := newFault_size w
  rw [← hW] at hbx hbw hs1
  have HBX := Lib.hid hbx
  have HBW := Lib.hid hbw
  have HS1 := Lib.hid hs1
  have HW := Lib.hid (show w.alloc (.cells #[.int .i64 0, .int .i64 0] 26) = W from hW.symm)
  have HBR := Lib.hid (broken_any s hlen W (hT.next hbw).utf)
  clear hT hW hbx hbw hs1
  by_cases h1024 : 1024 < s.size
  · have hd : decide (1024 < (s.size : Int)) = true := by simp; omega
    have HL : Hid (LX.lex s.data.toList = .error (6, 1)) := Lib.hid (by unfold LX.lex; rw [if_pos (by rw [HZ.out]; exact h1024)])
    go_enter Tryd.func9, Tryd.ntmps9
    go_wp2_with fail
    refine bodyPost_ret (v := .tuple #[.slice none 0 0, .agg #[.int .i64 6, .int .i64 1]]) (by simp [results, Tryd.results9, go_sem]) rfl ?_
    refine ⟨(Below.refl _ _).alloc (Nat.le_refl _) _, ?_⟩
    rw [HL.out]
    exact ⟨none, 0, rfl⟩
  have hd : decide (1024 < (s.size : Int)) = false := by simp; omega
  by_cases hv : LX.valid s.data.toList < s.size
  · have hdv : decide (((LX.valid s.data.toList : Nat) : Int) < (s.size : Int)) = true := by simp; omega
    have HL : Hid (LX.lex s.data.toList = .error (4, LX.valid s.data.toList + 1)) := Lib.hid (by unfold LX.lex; rw [if_neg (by rw [HZ.out]; exact h1024), if_pos (by rw [HZ.out]; exact hv)])
    go_enter Tryd.func9, Tryd.ntmps9
    go_wp2_with fail
    rw [HW.out]
    refine HBR.out.mono ?_
    rintro e w1 ⟨rfl, hb1⟩
    have HB1 := Lib.hid (HBW.out.trans (hb1.mono HBW.out.size))
    have HX1 := Lib.hid (HBX.out.carry (hb1.block _ (by rw [HS1.out]; omega)))
    clear hb1
    obtain ⟨c0, c1, f0, f1⟩ := HX1.out
    go_wp2_with fail
    have hq := HX1.out.all (.int .i64 4) (.int .i64 ((LX.valid s.data.toList : Nat) + 1))
    obtain ⟨q0, q1, _, _⟩ := hq
    refine bodyPost_ret (v := .tuple #[.slice none 0 0, .agg #[.int .i64 4, .int .i64 ((LX.valid s.data.toList : Nat) + 1)]]) (by simp [results, Tryd.results9, go_sem, q0, q1]) rfl ?_
    refine ⟨below_set2 HB1.out (Nat.le_refl _) _ _, ?_⟩
    rw [HL.out]
    exact ⟨none, 0, rfl⟩
  have hdv : decide (((LX.valid s.data.toList : Nat) : Int) < (s.size : Int)) = false := by simp; omega
  have HU : Hid (LX.U8 s.data.toList) := Lib.hid ((LX.u8_iff _).1 (by
    have := (LX.valid_le _ s.data.toList (Nat.le_refl _)).1
    rw [HZ.out] at this ⊢
    omega))
  have HLX : Hid (LX.lex s.data.toList = match LX.toks 0 s.data.toList with
    | .error p => .error (4, p)
    | .ok ts => .ok (ts ++ [⟨0, [], 0, s.size + 1⟩])) := Lib.hid (by rw [LX.lex_u8 (by rw [HZ.out]; omega) HU.out, HZ.out]; cases LX.toks 0 s.data.toList <;> rfl)
  go_enter Tryd.func9, Tryd.ntmps9
  go_wp2_with fail
  rw [HW.out]
  refine HBR.out.mono ?_
  rintro e w1 ⟨rfl, hb1⟩
  have HB1 := Lib.hid (HBW.out.trans (hb1.mono HBW.out.size))
  have HX1 := Lib.hid (HBX.out.carry (hb1.block _ (by rw [HS1.out]; omega)))
  have HZ1 := Lib.hid (show w.heap.size + 1 ≤ w1.heap.size from Nat.le_trans (by rw [HS1.out]; exact Nat.le_refl _) hb1.size)
  clear hb1 HBR
  go_wp2_with fail
  go_loopw [5, 6] (fun vl vr wr => ∃ (pos : Nat) (ts : List LX.Tok) (rb : ByteArray), vr = .string rb ∧ rb.data.toList = s.data.toList.drop pos ∧ pos ≤ s.size ∧ ts.length ≤ pos ∧ Rk 4 (fun b => w.heap.size + 1 ≤ b) wr vl ts.length (flatT ts) ∧ Below w.heap.size w wr ∧
    B2 wr w.heap.size (.int .i64 0) (.int .i64 0) ∧ w.heap.size + 1 ≤ wr.heap.size ∧ LX.U8 (s.data.toList.drop pos) ∧ LX.toks 0 s.data.toList = (LX.toks pos (s.data.toList.drop pos)).map (ts ++ ·)) (fun _ vr _ => lenOf vr)
  case atStart => exact ⟨0, [], s, rfl, by rw [List.drop_zero], Nat.zero_le _, Nat.le_refl _, Rk.nil 4 _ _, HB1.out, HX1.out, HZ1.out, by rw [List.drop_zero]; exact HU.out, by rw [List.drop_zero]; cases LX.toks 0 s.data.toList <;> rfl⟩
  case round =>
    obtain ⟨pos, ts, rb, rfl, hrb, hp, htl, hrk, hb, hbx, hws, hu, htk⟩ := hrel
    obtain ⟨j, hj1, hj2, hj3, hj4, hj5⟩ := trim_step (s.data.toList.drop pos) pos
    rw [List.length_drop, HZ.out] at hj1
    rw [List.drop_drop] at hj2 hj3 hj4 hj5
    rw [hj3] at htk
    have hu2 := hj4 hu
    obtain ⟨p, hpd⟩ : ∃ p, p = pos + j := ⟨_, rfl⟩
    rw [← hpd] at hj2 htk hu2 hj5
    have hps : p ≤ s.size := by omega
    have htp : ts.length ≤ p := by omega
    obtain ⟨x, hx⟩ : ∃ x : ByteArray, x = ⟨(Lib.trimLeftB rb.data.toList 32).toArray⟩ := ⟨_, rfl⟩
    have hxl : x.data.toList = s.data.toList.drop p := by rw [hx, hrb, hj2]
    have hxs : x.size + p = s.size := by rw [Lib.size_eq, hxl, List.length_drop, HZ.out]; omega
    have hrs : x.size ≤ rb.size := by
      have : rb.size + pos = s.size := by rw [Lib.size_eq, hrb, List.length_drop, HZ.out]; omega
      omega
    have HTR : Hid (Calls Tryd.prog 20 #[.string rb, .string ⟨#[32]⟩] wr fun e w' => e = .returned (.string x) ∧ w' = wr) := Lib.hid (by
      rw [hx]
      exact Tryd.strings_TrimLeft_one rb 32 (by decide) wr)
    have HRK := Lib.hid hrk
    have HB := Lib.hid hb
    have HX := Lib.hid hbx
    have HWS := Lib.hid hws
    have HXL := Lib.hid hxl
    have HXS := Lib.hid hxs
    have HU2 := Lib.hid hu2
    have HTK := Lib.hid htk
    have H32 := Lib.hid hj5
    have HRS := Lib.hid hrs
    obtain ⟨ao, co, rfl⟩ := hrk.shape
    have hat : (s.size : Int) - (x.size : Int) + 1 = (p : Int) + 1 := by omega
    clear hrb hrk hb hbx hws hxl hxs hu2 htk hj1 hj2 hj3 hj4 hj5 hu hpd hx hrs htl hp
    by_cases he : p = s.size
    · have hxe : x.toList = [] := by
        rw [Lib.toList_data, HXL.out]
        exact List.drop_of_length_le (by rw [HZ.out, he]; exact Nat.le_refl _)
      go_wp2_with fail
      refine HTR.out.mono ?_
      rintro e w' ⟨rfl, rfl⟩
      go_wp2_with (at_builtin; refine wpList_append_rk E34 _ rfl _ _ 23 rfl (G := fun b => w.heap.size + 1 ≤ b) rfl (Rk.alloc HRK.out _) ?c1 (.slice (some ⟨w'.heap.size, 0, none⟩) 1 1) 1 (flatT [⟨0, [], 0, s.size + 1⟩]) rfl (src_own _ _ rfl _ _ _ _ _ (by unfold tokC; rfl)) ?c2 ?c3 ?_)
      case c1 => intro b h; have := HWS.out; simp at h; omega
      case c2 => omega
      case c3 => omega
      intro v' w2 hrk2 hk2
      obtain ⟨hr3, hb3, ho3⟩ := own_app HB.out (Nat.le_succ _) HWS.out HRK.out (Keep.refl _ _) hrk2 hk2
      have HR3 := Lib.hid hr3
      have HB3 := Lib.hid hb3
      have HX3 := Lib.hid (HX.out.carry (ho3 _ (by omega)))
      clear hrk2 hk2 hr3 hb3 ho3
      obtain ⟨c0, c1, f0, f1⟩ := HX3.out
      go_wp2_with fail
      have hq := HX3.out.all (.int .i64 0) (.int .i64 0)
      obtain ⟨q0, q1, _, _⟩ := hq
      refine bodyPost_ret (v := .tuple #[v', .agg #[.int .i64 0, .int .i64 0]]) (by simp [results, Tryd.results9, go_sem, q0, q1]) rfl ?_
      refine ⟨below_set2 HB3.out (Nat.le_refl _) _ _, ?_⟩
      have htk := HTK.out
      rw [he, List.drop_of_length_le (by rw [HZ.out]; exact Nat.le_refl _), LX.toks_nil] at htk
      rw [HLX.out, htk]
      refine ⟨v', rfl, ?_⟩
      have hk3 := rk_set2 HR3.out (Nat.lt_succ_self _) (.int .i64 0) (.int .i64 0)
      have := Rk.toksAt hk3
      simpa using this
    · have hlt : p < s.size := by omega
      obtain ⟨c, r, hcr⟩ : ∃ c r, s.data.toList.drop p = c :: r := ⟨_, _, byte_drop s p hlt⟩
      have hxn : (x.toList == []) = false := by
        rw [Lib.toList_data, HXL.out, hcr]
        rfl
      have hxl : x.data.toList = c :: r := HXL.out.trans hcr
      have HF := Lib.hid (first_any x (by omega) hxl (by rw [← hcr]; exact HU2.out) wr (HT.out.next HB.out))
      have HC32 : Hid (c ≠ 32) := Lib.hid (H32.out c r hcr)
      have HCR := Lib.hid hcr
      clear hxl hcr
      cases htok : LX.tok c r with
      | none =>
        rw [htok] at HF
        unfold firstV at HF
        have HERR : Hid (LX.lex s.data.toList = .error (4, p + 1)) := Lib.hid (by
          rw [HLX.out, HTK.out, HCR.out, LX.toks_none HC32.out htok]
          rfl)
        clear htok
        go_wp2_with fail
        refine HTR.out.mono ?_
        rintro e w' ⟨rfl, rfl⟩
        go_wp2_with fail
        refine HF.out.mono ?_
        rintro e w2 ⟨rfl, hb2⟩
        have HB2 := Lib.hid (HB.out.trans (hb2.mono HB.out.size))
        have HX2 := Lib.hid (HX.out.carry (hb2.block _ (by have := HWS.out; omega)))
        have hne : w2.heap.size ≠ w.heap.size := by have := HWS.out; have := hb2.size; omega
        clear hb2
        have HX3 := Lib.hid (HX2.out.carry (Below.heap_alloc w2 (.cells #[.int .i64 0, .string ⟨#[]⟩, .int .i64 0, .int .i64 0] 34) w.heap.size (by have := HWS.out; have := HB2.out.size; omega)))
        obtain ⟨c0, c1, f0, f1⟩ := HX3.out
        clear hne
        go_wp2_with fail
        have hq := HX3.out.all (.int .i64 4) (.int .i64 ((p : Int) + 1))
        obtain ⟨q0, q1, _, _⟩ := hq
        refine bodyPost_ret (v := .tuple #[.slice none 0 0, .agg #[.int .i64 4, .int .i64 ((p : Int) + 1)]]) (by simp [results, Tryd.results9, go_sem, q0, q1]) rfl ?_
        refine ⟨below_set2 (HB2.out.alloc HB2.out.size _) (Nat.le_refl _) _ _, ?_⟩
        rw [HERR.out]
        exact ⟨none, 0, rfl⟩
      | some t =>
        obtain ⟨k, sy, n, m⟩ := t
        rw [htok] at HF
        unfold firstV at HF
        have hml := LX.tok_len htok
        have hm0 : ((m : Int) == 0) = false := by simp; omega
        have hru : LX.U8 (s.data.toList.drop (p + m)) := by
          have := tok_rest htok (by rw [← HCR.out]; exact HU2.out)
          rw [← HCR.out, List.drop_drop] at this
          exact this
        have hxm : m ≤ x.size := by
          have := congrArg List.length HCR.out
          rw [List.length_drop, HZ.out, List.length_cons] at this
          omega
        have HTN := Lib.hid (toks_at HCR.out HTK.out HC32.out htok)
        have HRU := Lib.hid hru
        have HRD : Hid ((x.extract m x.size).data.toList = s.data.toList.drop (p + m)) := Lib.hid (by rw [rest_data, HXL.out, List.drop_drop])
        clear htok hru
        go_wp2_with fail
        refine HTR.out.mono ?_
        rintro e w' ⟨rfl, rfl⟩
        go_wp2_with fail
        refine HF.out.mono ?_
        rintro e w2 ⟨rfl, hb2⟩
        have HB2 := Lib.hid (HB.out.trans (hb2.mono HB.out.size))
        have HX2 := Lib.hid (HX.out.carry (hb2.block _ (by have := HWS.out; omega)))
        have HWS2 := Lib.hid (Nat.le_trans HWS.out hb2.size)
        have HRK2 := Lib.hid (HRK.out.carry hb2.size fun b _ _ hb => hb2.block b hb)
        clear hb2
        go_wp2_with (at_builtin; refine wpList_append_rk E34 _ rfl _ _ 23 rfl (G := fun b => w.heap.size + 1 ≤ b) rfl (Rk.alloc (Rk.alloc HRK2.out _) _) ?e1 (.slice (some ⟨w2.heap.size + 1, 0, none⟩) 1 1) 1 (flatT [⟨k, sy, n, p + 1⟩]) rfl (src_own _ (w2.heap.size + 1) (by simp) ⟨k, sy, n, p + 1⟩ _ _ _ _ (by unfold tokC; rfl)) ?e2 ?e3 ?_)
        case e1 => intro b h; have := HWS2.out; simp at h; omega
        case e2 => omega
        case e3 => omega
        intro v' w3 hrk3 hk3
        obtain ⟨hr3, hb3, ho3⟩ := own_app HB2.out (Nat.le_succ _) HWS2.out HRK2.out ((Keep.refl _ _).alloc _) hrk3 hk3
        have HR3 := Lib.hid hr3
        have HB3 := Lib.hid hb3
        have HX3 := Lib.hid (HX2.out.carry (ho3 _ (by omega)))
        have HWS3 := Lib.hid (show w.heap.size + 1 ≤ w3.heap.size from Nat.le_trans HWS2.out (Nat.le_trans (by simp; omega) hk3.size))
        clear hrk3 hk3 hr3 hb3 ho3
        go_wp2_with fail
        go_roundw
        case rel =>
          refine ⟨p + m, ts ++ [⟨k, sy, n, p + 1⟩], x.extract m x.size, rfl, HRD.out, by omega, by rw [List.length_append, List.length_singleton]; omega, HR3.out, HB3.out, HX3.out, HWS3.out, HRU.out, HTN.out⟩
        case measure =>
          have := HRS.out
          simp [lenOf, ByteArray.size_extract]
          omega

/-- What package lex's calls do. -/
theorem lexCalls : LexCalls :=
  ⟨fun s h w hT => lex_any s h w hT, fun s _ w _ => (own_isWord_any s w).mono fun e w' ⟨he, hw⟩ => ⟨he, by rw [hw]; exact Below.refl _ _⟩,
   fun s h w hT => own_isText_any s h w hT.utf, fun s h w hT => own_quote_any s h w hT.utf⟩

end Go.Proofs.YtpchlnikcdhklaaDoor
