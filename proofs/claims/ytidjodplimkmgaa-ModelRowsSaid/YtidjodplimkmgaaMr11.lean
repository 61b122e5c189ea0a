/-
  HOW ENTRIES ARE SPREAD OVER ROWS PLAYS NO PART, nor how often they stand there; the other way round the latest come first: the law's walk.
-/
import Derived.Test.YtidjodplimkmgaaAl11
import Derived.Test.YtidjodplimkmgaaMq11
import Derived.Test.YtidjodplimkmgaaEr
namespace Go.Proofs.Ytidjodplimkmgaa.E4
open Go.RowKit Go
open Go.Sort (grow)

/-- All rows one behind the other, each twice. -/
def twice (rows : List (List Ent)) : List Ent := (rows.map fun x => x ++ x).flatten

theorem twice_snoc (rows : List (List Ent)) (k : Nat) (h : k < rows.length) : twice (rows.take k) ++ rows[k] ++ rows[k] = twice (rows.take (k + 1)) := by
  unfold twice
  rw [← List.take_append_getElem h, List.map_append, List.flatten_append]
  simp
theorem mem_twice {rows : List (List Ent)} {x : Ent} : x ∈ twice rows ↔ x ∈ rows.flatten := by
  unfold twice
  simp only [List.mem_flatten, List.mem_map]
  constructor
  · rintro ⟨l, ⟨r, hr, rfl⟩, hx⟩
    exact ⟨r, hr, (List.mem_append.1 hx).elim id id⟩
  · rintro ⟨r, hr, hx⟩
    exact ⟨_, ⟨r, hr, rfl⟩, List.mem_append.2 (.inl hx)⟩
theorem twice_len : ∀ (rows : List (List Ent)), (twice rows).length = 2 * rows.flatten.length
  | [] => rfl
  | x :: l => by
    have h := twice_len l
    unfold twice at h ⊢
    rw [List.map_cons, List.flatten_cons, List.length_append, List.length_append, h, List.flatten_cons, List.length_append]
    omega
theorem flat_take (rows : List (List Ent)) (k : Nat) : (rows.take k).flatten.length ≤ rows.flatten.length := by
  have h : ((rows.take k).flatten ++ (rows.drop k).flatten).length = rows.flatten.length := by rw [← List.flatten_append, List.take_append_drop]
  rw [List.length_append] at h
  omega
theorem kept_twice (q : Qy) (rows : List (List Ent)) (x : Ent) : x ∈ kept q [twice rows] ↔ x ∈ kept q rows := by
  unfold kept
  simp only [List.flatten_cons, List.flatten_nil, List.append_nil, List.mem_filter, mem_twice]
theorem kept_turn (q : Qy) (rows : List (List Ent)) : kept { q with desc := !q.desc } rows = kept q rows := rfl
theorem fine_twice {rows : List (List Ent)} (h : Fine rows) : Fine [twice rows] := fun r hr e he => by
  obtain rfl := List.mem_singleton.1 hr
  obtain ⟨s, hs, hes⟩ := List.mem_flatten.1 (mem_twice.1 he)
  exact h s hs e hes
theorem ordC_not (d : Bool) : ordC (!d) = fun a b => ordC d b a := by
  cases d <;> rfl
theorem sorts_turn {d : Bool} {es out : List Ent} (h : Sorts (ordC d) es out) : Sorts (ordC (!d)) es out.reverse := by
  rw [ordC_not]
  exact ⟨List.pairwise_reverse.2 h.1, fun x => List.mem_reverse.trans (h.2 x)⟩
theorem rows1 {w : World} {v : Value} {es : List Ent} (h : EntsAt (fun _ => True) (fun _ => True) w v es) : RowsAt (w.alloc (.cells #[v] 33)) (.slice (some ⟨w.heap.size, 0, none⟩) 1 1) [es] := by
  refine ⟨_, 1, rfl, by simp, .inr ⟨w.heap.size, 0, rfl, by simp, fun i hi => ?_⟩⟩
  obtain rfl : i = 0 := by simpa using hi
  exact ⟨v, CB.cell (CB.new w 33 #[v]) 0, h.below1 ((Below.refl _ w).alloc (Nat.le_refl _) _)⟩

theorem EntsAt.src_raw {G L : Nat → Prop} {w : World} {v : Value} {es : List Ent} (h : EntsAt G L w v es) : ∃ R, R.map Prod.snd = es ∧ RawL L w R ∧ Src Try.prog 3 33 v R.length (flatR R) w := by
  obtain ⟨a, c, rfl, hn, h0⟩ := id h
  by_cases he : es = []
  · subst he
    refine ⟨[], rfl, (fun x hx => nomatch hx), ?_⟩
    cases a with
    | none => exact Src.ofNil _ Try.underlying33 c
    | some p => exact Src.ofSlice _ Try.underlying33 p 0 c [] rfl (fun j u hu => by simp at hu) (fun u hu => by simp at hu)
  · obtain ⟨b, off, R, rfl, hR, hm, _, hlt, hr, hL⟩ := h.raw he
    rw [hR]
    exact ⟨R, hm, hL, hr.src hL c⟩

theorem rows_cells {w : World} {a : Option Addr} {c : Nat} {rows : List (List Ent)} (h : RowsAt w (.slice a rows.length c) rows) : rows = [] ∨ ∃ b off, a = some ⟨b, off, none⟩ ∧ b < w.heap.size ∧
    ∀ i (h : i < rows.length), ∃ rv, w.cell? ⟨b, off + i, none⟩ = some rv ∧ EntsAt (fun _ => True) (fun _ => True) w rv rows[i] := by
  obtain ⟨a', c', hv, _, h⟩ := h
  simp only [Value.slice.injEq, true_and] at hv
  obtain ⟨rfl, rfl⟩ := hv
  exact h

/-- One more row behind what has come. -/
theorem more_row {s0 : Nat} {w a w' : World} {v v' : Value} {R Rp : List (Value × Ent)} {n : Nat} (hs : a.heap.size = s0) (hrk : Rk 3 (fun b => s0 ≤ b) w v R.length (flatR R)) (hrl : RawL (fun b => b < s0) w R) (hrp : RawL (fun b => b < s0) w Rp) (hb : Below s0 a w) (hn : Rp.length = n)
    (h : Rk 3 (fun k => s0 ≤ k ∧ (At v k ∨ w.heap.size ≤ k)) w' v' (R.length + n) (flatR R ++ flatR Rp)) (hk : Keep (At v) w w') :
    Rk 3 (fun b => s0 ≤ b) w' v' (R ++ Rp).length (flatR (R ++ Rp)) ∧ RawL (fun b => b < s0) w' (R ++ Rp) ∧ Below s0 a w' ∧ RawL (fun b => b < s0) w' Rp := by
  subst hs
  have hb' : Below a.heap.size a w' := keep_below hrk (fun b hb => hb) hb hk
  refine ⟨?_, fun z hz => ?_, hb', fun z hz => (hrp z hz).both hb hb' hk.size⟩
  · have := h.mono (G' := fun b => a.heap.size ≤ b) fun b hb _ => hb.1
    rw [flatR_append, List.length_append, hn]
    exact this
  · rcases List.mem_append.1 hz with hz | hz
    · exact (hrl z hz).both hb hb' hk.size
    · exact (hrp z hz).both hb hb' hk.size

/-- What the operations leave that compare an entry with the one across. -/
def RV (cs : List Value) (j : Nat) (v : Value) (_ : World) : Prop := v = cs.getD j undef

set_option maxHeartbeats 16000000 in
set_option maxRecDepth 100000 in
theorem modelRows_walk (l : List Int) (u : Value) (rows : List (List Ent)) (rv : Value) (w : World) (hu : IntsAt w u l) (hr : RowsAt w rv rows) (hSh : w.ShapedOpen Try.prog) :
    Calls Try.prog 3 #[u, rv] w fun e w' => e = .returned (.bool true) ∧ Below w.heap.size w w' := by
  have hmx : Try.prog.follows .mixedOrders = true := by kernel_rfl
  obtain ⟨i24, z24, E24⟩ := elem24
  obtain ⟨a, cap, rfl, hl63, _⟩ := id hu
  obtain ⟨ar, cr, rfl, hr63, _⟩ := id hr
  have HAL := Lib.hid (alive_any w hSh)
  have HU0 := Lib.hid hu
  have HR0 := Lib.hid hr
  have HS0 := Lib.hid hSh
  clear hu hr hSh
  go_enter Try.func3, Try.ntmps3
  go_wp2_with fail
  refine HAL.out.mono ?_
  rintro e w1 ⟨rfl, hb1⟩
  have HB1 := Lib.hid hb1
  have HU1 := Lib.hid (HU0.out.below9 hb1)
  have HR1 := Lib.hid (HR0.out.below1 hb1)
  have HS1 := Lib.hid (shaped_below HS0.out hb1)
  have HG := Lib.hid (greatIn_any l _ rows _ w1 HU1.out HR1.out)
  clear hb1 HAL HU0 HR0 HS0
  cases hbig : bigIn l rows with
  | true =>
    rw [hbig] at HG
    clear hbig
    go_wp2_with (go_at_call 5; refine HG.out.mono ?_; rintro e w2 ⟨rfl, hb2⟩)
    go_ret
    exact ⟨rfl, below_mid HB1.out hb2⟩
  | false =>
  rw [hbig] at HG
  have HN := Lib.hid (bigIn_no hbig)
  have HFL := Lib.hid (bigIn_flat hbig)
  clear hbig
  go_wp2_with fail
  refine HG.out.mono ?_
  rintro e w2 ⟨rfl, hb2⟩
  have HB3 := Lib.hid (below_mid HB1.out hb2)
  have HU3 := Lib.hid (HU1.out.below9 hb2)
  have HR3 := Lib.hid (HR1.out.below1 hb2)
  have HS3 := Lib.hid (shaped_below HS1.out hb2)
  have HQ := Lib.hid (query_any l w2 _ HU3.out)
  clear hb2 HG HB1 HU1 HR1 HS1
  go_wp2_with fail
  refine HQ.out.mono ?_
  rintro e w4 ⟨vq, rfl, ⟨mv, kv, rfl, hmq, hkq⟩, hl4⟩
  have HQF := Lib.hid (query_fit l)
  generalize Qy.query l = q at hmq hkq HQF ⊢
  obtain ⟨am, cm, rfl, hq63, _⟩ := id hmq
  obtain ⟨ak, ck, rfl⟩ := hkq.shape
  have hb4 := hl4.below
  obtain ⟨w5, hw5⟩ : ∃ w5, w5 = w4.alloc (.cells #[.int .i64 q.src, .int .i64 q.til, .slice am q.mat.length cm, .int .i64 q.fil.op, .string q.fil.name, .string q.fil.text, .slice ak q.fil.kids.length ck, .bool q.desc, .int .i64 q.lim, .string q.page] 31) := ⟨_, rfl⟩
  have hb45 : Below w4.heap.size w4 w5 := by rw [hw5]; exact (Below.refl _ w4).alloc (Nat.le_refl _) _
  have hq5 : CB w5 w4.heap.size 31 #[.int .i64 q.src, .int .i64 q.til, .slice am q.mat.length cm, .int .i64 q.fil.op, .string q.fil.name, .string q.fil.text, .slice ak q.fil.kids.length ck, .bool q.desc, .int .i64 q.lim, .string q.page] := by rw [hw5]; exact CB.new w4 31 _
  have hb35 := below_mid hb4 hb45
  have HP5 : Hid (MQ w5 w4.heap.size q am cm ak ck rows (.slice ar rows.length cr)) := Lib.hid ⟨hq5, hmq.below9 hb45, KsAt.below hb45 _ _ hkq, HR3.out.below1 hb35, shaped_below HS3.out hb35⟩
  have HB5 := Lib.hid (below_mid HB3.out hb35)
  have HW5 := Lib.hid hw5.symm
  clear hmq hkq hl4 hb4 hw5 hb45 hq5 hb35 HB3 HU3 HR3 HS3 HQ
  simp only [Qy.val]
  go_upto_region 6 with fail
  rw [HW5.out]
  generalize w4.heap.size = B at HP5 ⊢
  have HF := Lib.hid HN.out.2.2.1
  have HRC := Lib.hid (rows_cells HP5.out.r)
  clear HN
  go_wp2_with fail
  go_loopw [22, 6] (fun vi vb wr => ∃ (k : Nat) (R : List (Value × Ent)), vi = .int .i64 k ∧ k ≤ rows.length ∧ R.map Prod.snd = twice (rows.take k) ∧ Rk 3 (fun b => w5.heap.size ≤ b) wr vb R.length (flatR R) ∧ RawL (fun b => b < w5.heap.size) wr R ∧ Below w5.heap.size w5 wr) (fun vi _ _ => rows.length - (intOf vi).toNat)
  case atStart => exact ⟨0, [], rfl, Nat.zero_le _, rfl, Rk.nil 3 _ _, fun x hx => by simp at hx, Below.refl _ _⟩
  case round =>
    obtain ⟨k, R, rfl, hk, hRm, hrk, hrl, hbw⟩ := hrel
    obtain ⟨ao, co, rfl⟩ : ∃ a c, u6 = .slice a R.length c := by
      rcases hrk.sq with ⟨h1, h2⟩ | ⟨g, c, h1, _⟩
      · exact ⟨none, 0, by rw [h1, h2]⟩
      · exact ⟨_, c, h1⟩
    have hRl := congrArg List.length hRm
    rw [List.length_map, twice_len] at hRl
    have hfl := HFL.out
    have HRK := Lib.hid hrk
    have HRL := Lib.hid hrl
    have HRM := Lib.hid hRm
    have HBW := Lib.hid hbw
    by_cases hlt : k < rows.length
    · rcases HRC.out with h0 | ⟨br, off, rfl, hbr, hcells⟩
      · exact absurd hlt (by rw [h0]; simp)
      obtain ⟨pv, hc, hes⟩ := hcells k hlt
      have hc' : wr.cell? ⟨br, off + k, none⟩ = some pv := (hbw.cell hbr).trans hc
      have htk := twice_snoc rows k hlt
      have hf1 := flat_take rows (k + 1)
      rw [← List.take_append_getElem hlt, List.flatten_append, List.length_append, show [rows[k]].flatten = rows[k] by simp] at hf1
      generalize rows[k] = p at hes htk hf1
      obtain ⟨ap, cp, rfl, hp63, _⟩ := id hes
      have HES : Hid (∀ W, Below w5.heap.size w5 W → ∃ Rp, Rp.map Prod.snd = p ∧ Rp.length = p.length ∧ RawL (fun b => b < w5.heap.size) W Rp ∧ Src Try.prog 3 33 (.slice ap p.length cp) p.length (flatR Rp) W) := Lib.hid fun W hW => by
        obtain ⟨Rp, h1, h2, h3⟩ := ((hes.mono (H := fun b => b < w5.heap.size) (M := fun b => b < w5.heap.size) (fun b _ h => h) (fun b _ h => h)).below1 hW).src_raw
        have h4 : Rp.length = p.length := by rw [← h1, List.length_map]
        rw [h4] at h3
        exact ⟨Rp, h1, h4, h2, h3⟩
      obtain ⟨Rp, hP1, hP2, hP3, hP4⟩ := HES.out wr hbw
      have HP1 := Lib.hid hP1
      have HP2 := Lib.hid hP2
      have HP3 := Lib.hid hP3
      have HP4 := Lib.hid hP4
      have HTS := Lib.hid htk
      have HRLN := Lib.hid hRl
      have hb0 : R.length + p.length + p.length ≤ 1000 := by omega
      clear hrk hrl hRm hbw hc hes hcells htk hP1 hP2 hP3 hP4 hf1 hfl hRl
      go_wp2_with (at_builtin; refine wpList_append_rk E24 _ rfl _ _ 33 rfl (G := fun b => w5.heap.size ≤ b) rfl HRK.out ?c1 (.slice ap p.length cp) p.length (flatR Rp) rfl HP4.out ?c3 ?c4 ?_)
      case c1 => exact fun b hb => Nat.le_trans HBW.out.size hb
      case c3 => omega
      case c4 => omega
      intro v1 x1 hrk1 hk1
      obtain ⟨h1, h2, h3, _⟩ := more_row rfl HRK.out HRL.out HP3.out HBW.out HP2.out hrk1 hk1
      obtain ⟨Rq, hQ1, hQ2, hQ3, hQ4⟩ := HES.out x1 h3
      have hn1 : (R ++ Rp).length = R.length + p.length := by rw [List.length_append, HP2.out]
      have HRK1 := Lib.hid h1
      have HRL1 := Lib.hid h2
      have HBW1 := Lib.hid h3
      have HQ1 := Lib.hid hQ1
      have HQ2 := Lib.hid hQ2
      have HQ3 := Lib.hid hQ3
      have HQ4 := Lib.hid hQ4
      have HN1 := Lib.hid hn1
      clear h1 h2 h3 hQ1 hQ2 hQ3 hQ4 hn1 hrk1 hk1
      go_wp2_with (at_builtin; refine wpList_append_rk E24 _ rfl _ _ 33 rfl (G := fun b => w5.heap.size ≤ b) rfl HRK1.out ?c1 (.slice ap p.length cp) p.length (flatR Rq) rfl HQ4.out ?c3 ?c4 ?_)
      case c1 => exact fun b hb => Nat.le_trans HBW1.out.size hb
      case c3 => have := HN1.out; omega
      case c4 => have := HN1.out; omega
      intro v2 x2 hrk2 hk2
      rw [← List.length_append] at hrk2
      obtain ⟨h1, h2, h3, _⟩ := more_row rfl HRK1.out HRL1.out HQ3.out HBW1.out HQ2.out hrk2 hk2
      have HRK2 := Lib.hid h1
      have HRL2 := Lib.hid h2
      have HBW2 := Lib.hid h3
      clear h1 h2 h3 hrk2 hk2
      go_wp2
      go_roundw
      case rel => exact ⟨k + 1, R ++ Rp ++ Rq, by go_num, by omega, by rw [List.map_append, List.map_append, HRM.out, HP1.out, HQ1.out, HTS.out], HRK2.out, HRL2.out, HBW2.out⟩
      case measure => simp [intOf]; omega
    · obtain rfl : k = rows.length := by omega
      rw [List.take_of_length_le (Nat.le_refl _)] at hRm hRl
      have hE := (hrk.ents hrl).any
      rw [hRm] at hE
      have HE1 := Lib.hid hE
      have HP6 := Lib.hid (HP5.out.below hbw)
      have HB6 := Lib.hid (below_mid HB5.out hbw)
      have hn6 : R.length ≤ 720 := by omega
      clear hrk hrl hRm hbw hE hRl hfl HRK HRL HRM HBW HP5 HB5 HRC
      have c0 := HP6.out.c.cell 0
      have c1 := HP6.out.c.cell 1
      have c2 := HP6.out.c.cell 2
      have c3 := HP6.out.c.cell 3
      have c4 := HP6.out.c.cell 4
      have c5 := HP6.out.c.cell 5
      have c6 := HP6.out.c.cell 6
      have c7 := HP6.out.c.cell 7
      have c8 := HP6.out.c.cell 8
      have c9 := HP6.out.c.cell 9
      simp only [List.getElem?_toArray, List.getElem?_cons_succ, List.getElem?_cons_zero] at c0 c1 c2 c3 c4 c5 c6 c7 c8 c9
      have hcb6 := HP6.out.c.lt
      obtain ⟨w7, hw7⟩ : ∃ w7, w7 = wr.alloc (.cells #[.int .i64 q.src, .int .i64 q.til, .slice am q.mat.length cm, .int .i64 q.fil.op, .string q.fil.name, .string q.fil.text, .slice ak q.fil.kids.length ck, .bool (!q.desc), .int .i64 q.lim, .string q.page] 31) := ⟨_, rfl⟩
      have hc7 : CB w7 wr.heap.size 31 #[.int .i64 q.src, .int .i64 q.til, .slice am q.mat.length cm, .int .i64 q.fil.op, .string q.fil.name, .string q.fil.text, .slice ak q.fil.kids.length ck, .bool (!q.desc), .int .i64 q.lim, .string q.page] := by rw [hw7]; exact CB.new wr 31 _
      have hb7 : Below wr.heap.size wr w7 := by rw [hw7]; exact (Below.refl _ wr).alloc (Nat.le_refl _) _
      have HC7 := Lib.hid hc7
      have HP7 := Lib.hid (HP6.out.below hb7)
      have HE7 := Lib.hid (HE1.out.below1 hb7)
      have HB7 := Lib.hid (below_mid HB6.out hb7)
      have HW7 := Lib.hid hw7.symm
      clear hw7 hc7 hb7 HE1 HP6 HB6
      go_upto_region 14 with fail
      rw [HW7.out]
      generalize wr.heap.size = BT at HC7 ⊢
      clear HW7 c0 c1 c2 c3 c4 c5 c6 c7 c8 c9 hcb6
      -- a
      have c0 := HP7.out.c.cell 0
      have c1 := HP7.out.c.cell 1
      have c2 := HP7.out.c.cell 2
      have c3 := HP7.out.c.cell 3
      have c4 := HP7.out.c.cell 4
      have c5 := HP7.out.c.cell 5
      have c6 := HP7.out.c.cell 6
      have c7 := HP7.out.c.cell 7
      have c8 := HP7.out.c.cell 8
      have c9 := HP7.out.c.cell 9
      simp only [List.getElem?_toArray, List.getElem?_cons_succ, List.getElem?_cons_zero] at c0 c1 c2 c3 c4 c5 c6 c7 c8 c9
      have HOA := Lib.hid (answer_any q _ rows _ w7 HP7.out.qat HQF.out HP7.out.r HF.out (Nat.le_trans HFL.out (by decide)) HP7.out.s)
      simp only [Qy.val] at HOA
      go_wp2_with fail
      refine HOA.out.mono ?_
      rintro e w8 ⟨va, out, rfl, hentA, hsqA, hsoA, hb8⟩
      obtain ⟨aa, ca, rfl, _, _⟩ := id hentA
      have HSO := Lib.hid hsoA
      have HP8 := Lib.hid (HP7.out.below hb8)
      have HB8 := Lib.hid (below_mid HB7.out hb8)
      have HC8 := Lib.hid (cb_below HC7.out hb8)
      have HE8 := Lib.hid (HE7.out.below1 hb8)
      have HA8 := Lib.hid hentA.any
      clear hentA hsqA hsoA hb8 HOA HP7 HB7 HC7 HE7 c0 c1 c2 c3 c4 c5 c6 c7 c8 c9
      -- b
      have c0 := HC8.out.cell 0
      have c1 := HC8.out.cell 1
      have c2 := HC8.out.cell 2
      have c3 := HC8.out.cell 3
      have c4 := HC8.out.cell 4
      have c5 := HC8.out.cell 5
      have c6 := HC8.out.cell 6
      have c7 := HC8.out.cell 7
      have c8 := HC8.out.cell 8
      have c9 := HC8.out.cell 9
      simp only [List.getElem?_toArray, List.getElem?_cons_succ, List.getElem?_cons_zero] at c0 c1 c2 c3 c4 c5 c6 c7 c8 c9
      have hone : ∀ W : World, Below W.heap.size W (W.alloc (.cells #[.slice ao R.length co] 33)) := fun W => (Below.refl _ W).alloc (Nat.le_refl _) _
      have HLT : Hid ([twice rows].flatten.length ≤ 1000) := Lib.hid (by
        rw [List.flatten_cons, List.flatten_nil, List.append_nil, twice_len]
        have := HFL.out
        omega)
      have HOB : Hid (Calls Try.prog 7 #[.agg #[.int .i64 q.src, .int .i64 q.til, .slice am q.mat.length cm, .int .i64 q.fil.op, .string q.fil.name, .string q.fil.text, .slice ak q.fil.kids.length ck, .bool (!q.desc), .int .i64 q.lim, .string q.page], .slice (some ⟨w8.heap.size, 0, none⟩) 1 1] (w8.alloc (.cells #[.slice ao R.length co] 33)) (AnsPost { q with desc := !q.desc } [twice rows] (w8.alloc (.cells #[.slice ao R.length co] 33)))) := Lib.hid
        (answer_any { q with desc := !q.desc } _ [twice rows] _ _ ⟨_, _, rfl, (HP8.out.below (hone w8)).m, (HP8.out.below (hone w8)).k⟩ HQF.out (rows1 HE8.out) (fine_twice HF.out) HLT.out (shaped_below HP8.out.s (hone w8)))
      go_wp2_with fail
      refine HOB.out.mono ?_
      rintro e w9 ⟨vb, outb, rfl, hentB, _, hsoB, hb9⟩
      have hb89 : Below w8.heap.size w8 w9 := below_mid (hone w8) hb9
      have hrev : outb = out.reverse := Sorts.unique (ordC_lc (!q.desc)) hsoB (sorts_turn HSO.out) (fun x => kept_twice q rows x)
      subst hrev
      obtain ⟨ab, cb, hvb, _, hbc⟩ := id hentB
      rw [List.length_reverse] at hvb
      subst hvb
      have HBC := Lib.hid hbc
      have HP9 := Lib.hid (HP8.out.below hb89)
      have HB9 := Lib.hid (below_mid HB8.out hb89)
      have HE9 := Lib.hid (HE8.out.below1 hb89)
      have HA9 := Lib.hid (HA8.out.below1 hb89)
      clear hentB hsoB hb9 hb89 hbc HOB HP8 HB8 HC8 HE8 HA8 c0 c1 c2 c3 c4 c5 c6 c7 c8 c9
      -- as a
      have c0 := HP9.out.c.cell 0
      have c1 := HP9.out.c.cell 1
      have c2 := HP9.out.c.cell 2
      have c3 := HP9.out.c.cell 3
      have c4 := HP9.out.c.cell 4
      have c5 := HP9.out.c.cell 5
      have c6 := HP9.out.c.cell 6
      have c7 := HP9.out.c.cell 7
      have c8 := HP9.out.c.cell 8
      have c9 := HP9.out.c.cell 9
      simp only [List.getElem?_toArray, List.getElem?_cons_succ, List.getElem?_cons_zero] at c0 c1 c2 c3 c4 c5 c6 c7 c8 c9
      have HOC : Hid (Calls Try.prog 7 #[.agg #[.int .i64 q.src, .int .i64 q.til, .slice am q.mat.length cm, .int .i64 q.fil.op, .string q.fil.name, .string q.fil.text, .slice ak q.fil.kids.length ck, .bool q.desc, .int .i64 q.lim, .string q.page], .slice (some ⟨w9.heap.size, 0, none⟩) 1 1] (w9.alloc (.cells #[.slice ao R.length co] 33)) (AnsPost q [twice rows] (w9.alloc (.cells #[.slice ao R.length co] 33)))) := Lib.hid
        (answer_any q _ [twice rows] _ _ (HP9.out.below (hone w9)).qat HQF.out (rows1 HE9.out) (fine_twice HF.out) HLT.out (shaped_below HP9.out.s (hone w9)))
      go_wp2_with fail
      refine HOC.out.mono ?_
      rintro e w10 ⟨vc, outc, rfl, hentC, _, hsoC, hb10⟩
      have hb90 : Below w9.heap.size w9 w10 := below_mid (hone w9) hb10
      obtain rfl := (Sorts.unique (ordC_lc q.desc) hsoC HSO.out (fun x => kept_twice q rows x)).symm
      have HAA := Lib.hid (all_any hentC (HA9.out.below1 hb90))
      have HB10 := Lib.hid (below_mid HB9.out hb90)
      have HK10 := Lib.hid hb90
      clear hentC hsoC hb10 hb90 HOC HB9 HE9 HP9 c0 c1 c2 c3 c4 c5 c6 c7 c8 c9 hone HLT HF HFL HQF
      go_wp2_with fail
      refine HAA.out.mono ?_
      rintro e w11 ⟨rfl, hl11⟩
      have hk11 := below_mid HK10.out (lay_below hl11)
      have HB11 := Lib.hid (below_mid HB10.out (lay_below hl11))
      have HK11 := Lib.hid hk11
      have HA11 := Lib.hid (HA9.out.below1 hk11)
      clear hl11 hk11 HAA HB10 HK10 HA9
      go_wp2_with fail
      go_loopw [60] (fun vi wr => ∃ i : Nat, vi = .int .i64 i ∧ i ≤ out.length ∧ Below w11.heap.size w11 wr) (fun vi _ => out.length - (intOf vi).toNat)
      case atStart => exact ⟨0, rfl, Nat.zero_le _, Below.refl _ _⟩
      case round =>
        obtain ⟨i, rfl, hi, hbw⟩ := hrel
        have HBW := Lib.hid hbw
        by_cases hlt : i < out.length
        · obtain ⟨_, _, hv, hx63, h0 | ⟨ba, offa, ha, _, hba, hca⟩⟩ := id (HA11.out.below1 hbw)
          · exact absurd hlt (by rw [h0]; simp)
          simp only [Value.slice.injEq, true_and] at hv
          obtain ⟨rfl, rfl⟩ := hv
          subst ha
          rcases HBC.out with h0 | ⟨bb, offb, rfl, _, hbb, hcb⟩
          · exact absurd hlt (by rw [List.reverse_eq_nil_iff.1 h0]; simp)
          obtain ⟨m, hm⟩ : ∃ m, m = out.length - 1 - i := ⟨_, rfl⟩
          have hmlt : m < out.length := by omega
          obtain ⟨lx, x0, x1, x2, x3⟩ := hca i hlt
          obtain ⟨ly, y0, y1, y2, y3⟩ := hcb m (by rw [List.length_reverse]; exact hmlt)
          have hrm : out.reverse[m]'(by rw [List.length_reverse]; exact hmlt) = out[i] := by
            rw [List.getElem_reverse]
            have e : out.length - 1 - m = i := by omega
            simp only [e]
          rw [hrm] at y0 y2 y3
          have hk : Below w9.heap.size w9 wr := below_mid HK11.out hbw
          generalize out[i] = x at x0 x1 x2 x3 y0 y1 y2 y3
          obtain ⟨ax, cx, rfl, hax, _⟩ := id x3
          obtain ⟨ay, cy, rfl, hay, _⟩ := id y3
          have HX0 := Lib.hid x0
          have HX1 := Lib.hid x1
          have HX2 := Lib.hid x2
          have HX3 := Lib.hid x3
          have HY0 := Lib.hid ((hk.cell hbb).trans y0)
          have HY1 := Lib.hid ((hk.cell hbb).trans y1)
          have HY2 := Lib.hid ((hk.cell hbb).trans y2)
          have HY3 := Lib.hid (y3.below1 hk)
          have HBA := Lib.hid hba
          have HBB : Hid (bb < wr.heap.size) := Lib.hid (Nat.lt_of_lt_of_le hbb hk.size)
          have HM : Hid ((out.length : Int) - 1 - (i : Int) = (m : Int)) := Lib.hid (by omega)
          have HW1 : Hid (IntKind.i64.wrap ((out.length : Int) - 1) = (out.length : Int) - 1) := Lib.hid (by rw [IntKind.wrap_i64]; omega)
          have HW2 : Hid (IntKind.i64.wrap ((out.length : Int) - 1 - (i : Int)) = (out.length : Int) - 1 - (i : Int)) := Lib.hid (by rw [IntKind.wrap_i64]; omega)
          have HXX : Hid (entC x x = 0) := Lib.hid (entC_lc.refl x)
          clear x0 x1 x2 x3 y0 y1 y2 y3 hca hcb hrm hk hbw hm hba hbb
          go_upto_region 21 with fail
          refine wp_region_flow (by kernel_rfl) (fun W => Below wr.heap.size wr W) (fun _ W W' => Below W.heap.size W W') (RV [.slice (some ⟨ba, offa, none⟩) out.length ca, .int .i64 (i : Nat), .pointer (some ⟨ba, offa + i * 3, none⟩), .agg #[.int .i64 x.tm, .slice ax x.labs.length cx, .string x.line], .slice (some ⟨bb, offb, none⟩) out.length cb, .slice (some ⟨bb, offb, none⟩) out.length cb, .int .i64 (out.length : Nat), .int .i64 ((out.length : Int) - 1), .int .i64 (i : Nat), .int .i64 (m : Nat), .pointer (some ⟨bb, offb + m * 3, none⟩), .agg #[.int .i64 x.tm, .slice ay x.labs.length cy, .string x.line], .bool true, .bool false]) (fun j => j == 13) (by kernel_rfl) (by kernel_rfl) (fun _ _ _ _ _ _ _ _ h _ _ => h) (lay_below ((Keep.refl (fun _ => False) wr).drew)) ?step ?fin
          case step =>
            refine ⟨?_, ?_, ?_, ?_, ?_, ?_, ?_, ?_, ?_, ?_, ?_, ?_, ?_, ?_, trivial⟩
            · intro ys A W hA hI hd K hK
              have e10 : A.tmps.getD 10 undef = .slice (some ⟨ba, offa, none⟩) out.length ca := hA 10 (Nat.le_of_ble_eq_true rfl)
              refine step_run (.inl rfl) ?_
              clear hA hd
              go_simp
              exact hK _ _ hI (Below.refl _ _) rfl
            · intro ys A W hA hI hd K hK
              have e12 : A.tmps.getD 12 undef = .int .i64 (i : Nat) := hA 12 (Nat.le_of_ble_eq_true rfl)
              refine step_run (.inl rfl) ?_
              clear hA hd
              go_simp
              exact hK _ _ hI (Below.refl _ _) rfl
            · intro ys A W hA hI hd K hK
              have e63 : A.tmps.getD 63 undef = .slice (some ⟨ba, offa, none⟩) out.length ca := (hA 63 (Nat.le_of_ble_eq_true rfl)).trans (hd ⟨0, .data⟩ (by simp) rfl)
              have e64 : A.tmps.getD 64 undef = .int .i64 (i : Nat) := (hA 64 (Nat.le_of_ble_eq_true rfl)).trans (hd ⟨1, .data⟩ (by simp) rfl)
              refine step_run (.inl rfl) ?_
              clear hA hd
              go_simp
              exact hK _ _ hI (Below.refl _ _) rfl
            · intro ys A W hA hI hd K hK
              have e65 : A.tmps.getD 65 undef = .pointer (some ⟨ba, offa + i * 3, none⟩) := (hA 65 (Nat.le_of_ble_eq_true rfl)).trans (hd ⟨2, .data⟩ (by simp) rfl)
              have z0 := (hI.cell HBA.out).trans HX0.out
              have z1 := (hI.cell HBA.out).trans HX1.out
              have z2 := (hI.cell HBA.out).trans HX2.out
              refine step_run (.inl rfl) ?_
              clear hA hd
              go_simp
              exact hK _ _ hI (Below.refl _ _) rfl
            · intro ys A W hA hI hd K hK
              have e11 : A.tmps.getD 11 undef = .slice (some ⟨bb, offb, none⟩) out.length cb := hA 11 (Nat.le_of_ble_eq_true rfl)
              refine step_run (.inl rfl) ?_
              clear hA hd
              go_simp
              exact hK _ _ hI (Below.refl _ _) rfl
            · intro ys A W hA hI hd K hK
              have e11 : A.tmps.getD 11 undef = .slice (some ⟨bb, offb, none⟩) out.length cb := hA 11 (Nat.le_of_ble_eq_true rfl)
              refine step_run (.inl rfl) ?_
              clear hA hd
              go_simp
              exact hK _ _ hI (Below.refl _ _) rfl
            · intro ys A W hA hI hd K hK
              have e68 : A.tmps.getD 68 undef = .slice (some ⟨bb, offb, none⟩) out.length cb := (hA 68 (Nat.le_of_ble_eq_true rfl)).trans (hd ⟨5, .data⟩ (by simp) rfl)
              refine step_run (.inl rfl) ?_
              clear hA hd
              go_simp
              exact hK _ _ hI (Below.refl _ _) rfl
            · intro ys A W hA hI hd K hK
              have e69 : A.tmps.getD 69 undef = .int .i64 (out.length : Nat) := (hA 69 (Nat.le_of_ble_eq_true rfl)).trans (hd ⟨6, .data⟩ (by simp) rfl)
              refine step_run (.inl rfl) ?_
              clear hA hd
              go_simp
              exact hK _ _ hI (Below.refl _ _) (congrArg (Value.int IntKind.i64) HW1.out)
            · intro ys A W hA hI hd K hK
              have e12 : A.tmps.getD 12 undef = .int .i64 (i : Nat) := hA 12 (Nat.le_of_ble_eq_true rfl)
              refine step_run (.inl rfl) ?_
              clear hA hd
              go_simp
              exact hK _ _ hI (Below.refl _ _) rfl
            · intro ys A W hA hI hd K hK
              have e70 : A.tmps.getD 70 undef = .int .i64 ((out.length : Int) - 1) := (hA 70 (Nat.le_of_ble_eq_true rfl)).trans (hd ⟨7, .data⟩ (by simp) rfl)
              have e71 : A.tmps.getD 71 undef = .int .i64 (i : Nat) := (hA 71 (Nat.le_of_ble_eq_true rfl)).trans (hd ⟨8, .data⟩ (by simp) rfl)
              refine step_run (.inl rfl) ?_
              clear hA hd
              go_simp
              exact hK _ _ hI (Below.refl _ _) (congrArg (Value.int IntKind.i64) (HW2.out.trans HM.out))
            · intro ys A W hA hI hd K hK
              have e67 : A.tmps.getD 67 undef = .slice (some ⟨bb, offb, none⟩) out.length cb := (hA 67 (Nat.le_of_ble_eq_true rfl)).trans (hd ⟨4, .data⟩ (by simp) rfl)
              have e72 : A.tmps.getD 72 undef = .int .i64 (m : Nat) := (hA 72 (Nat.le_of_ble_eq_true rfl)).trans (hd ⟨9, .data⟩ (by simp) rfl)
              refine step_run (.inl rfl) ?_
              clear hA hd
              go_simp
              exact hK _ _ hI (Below.refl _ _) rfl
            · intro ys A W hA hI hd K hK
              have e73 : A.tmps.getD 73 undef = .pointer (some ⟨bb, offb + m * 3, none⟩) := (hA 73 (Nat.le_of_ble_eq_true rfl)).trans (hd ⟨10, .data⟩ (by simp) rfl)
              have z0 := (hI.cell HBB.out).trans HY0.out
              have z1 := (hI.cell HBB.out).trans HY1.out
              have z2 := (hI.cell HBB.out).trans HY2.out
              refine step_run (.inl rfl) ?_
              clear hA hd
              go_simp
              exact hK _ _ hI (Below.refl _ _) rfl
            · intro ys A W hA hI hd K hK
              have e66 : A.tmps.getD 66 undef = .agg #[.int .i64 x.tm, .slice ax x.labs.length cx, .string x.line] := (hA 66 (Nat.le_of_ble_eq_true rfl)).trans (hd ⟨3, .data⟩ (by simp) rfl)
              have e74 : A.tmps.getD 74 undef = .agg #[.int .i64 x.tm, .slice ay x.labs.length cy, .string x.line] := (hA 74 (Nat.le_of_ble_eq_true rfl)).trans (hd ⟨11, .data⟩ (by simp) rfl)
              have f66 : A.tmps[66]?.getD undef = _ := Array.getD_eq_getD_getElem?.symm.trans e66
              have f74 : A.tmps[74]?.getD undef = _ := Array.getD_eq_getD_getElem?.symm.trans e74
              have HSA := Lib.hid (same_any (HX3.out.below1 hI) (HY3.out.below1 hI))
              rw [decide_eq_true HXX.out] at HSA
              simp only [Ent.val] at HSA
              refine step_run (.inl rfl) ?_
              clear hA hd
              go_simp
              refine HSA.out.mono ?_
              rintro r w' ⟨rfl, hl⟩
              have hb := lay_below hl
              exact hK _ _ (hI.trans (hb.mono hI.size)) hb rfl
            · intro ys A W hA hI hd K hK
              have e75 : A.tmps.getD 75 undef = .bool true := (hA 75 (Nat.le_of_ble_eq_true rfl)).trans (hd ⟨12, .data⟩ (by simp) rfl)
              refine step_run (.inl rfl) ?_
              clear hA hd
              go_simp
              exact hK _ _ hI (Below.refl _ _) rfl
          case fin =>
            intro ys w12 hI hF
            have h13 : ys 13 = .bool false := hF 13 (Nat.le_of_ble_eq_true rfl) rfl
            have HB12 := Lib.hid (below_mid HBW.out hI)
            clear hI hF
            simp only [putsFrom]
            simp only [h13, Act.put, List.setIfInBounds_toArray, List.set_cons_succ, List.set_cons_zero]
            clear h13
            go_wp2
            go_roundw
            case rel => exact ⟨i + 1, by go_num, by omega, HB12.out⟩
            case measure => simp [intOf]; omega
        · obtain rfl : i = out.length := by omega
          clear hbw
          go_wp2_with fail
          go_ret
          exact ⟨rfl, below_mid HB11.out HBW.out⟩

end Go.Proofs.Ytidjodplimkmgaa.E4
