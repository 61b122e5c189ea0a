/-
  model.Answer.
-/
import Derived.Test.YtidjodplimkmgaaBs11
import Derived.Lib.QuietBelow
namespace Go.Proofs.Ytidjodplimkmgaa.E4
open Go.RowKit Go
open Go.Sort (grow)

set_option maxHeartbeats 8000000 in
set_option maxRecDepth 100000 in
theorem answer_any (q : Qy) (qv : Value) (rows : List (List Ent)) (rv : Value) (w : World) (hq : QAt w qv q) (hf : Fit q.fil) (hr : RowsAt w rv rows) (hfine : Fine rows) (hn : rows.flatten.length ≤ 1000) (hSh : w.ShapedOpen Try.prog) :
    Calls Try.prog 7 #[qv, rv] w (AnsPost q rows w) := by
  have hmx : Try.prog.follows .mixedOrders = true := by kernel_rfl
  obtain ⟨i24, z24, E24⟩ := elem24
  obtain ⟨mv, kv, rfl, hm, hk⟩ := hq
  obtain ⟨am, cm, rfl, hm63, _⟩ := id hm
  obtain ⟨ak, ck, rfl⟩ := hk.shape
  obtain ⟨ar, cr, rfl, hr63, hrc⟩ := id hr
  obtain ⟨w1, hw1⟩ : ∃ w1, w1 = w.alloc (.cells #[.int .i64 q.src, .int .i64 q.til, .slice am q.mat.length cm, .int .i64 q.fil.op, .string q.fil.name, .string q.fil.text, .slice ak q.fil.kids.length ck, .bool q.desc, .int .i64 q.lim, .string q.page] 31) := ⟨_, rfl⟩
  have hb1 : Below w.heap.size w w1 := by rw [hw1]; exact (Below.refl _ w).alloc (Nat.le_refl _) _
  have hq1 : CB w1 w.heap.size 31 #[.int .i64 q.src, .int .i64 q.til, .slice am q.mat.length cm, .int .i64 q.fil.op, .string q.fil.name, .string q.fil.text, .slice ak q.fil.kids.length ck, .bool q.desc, .int .i64 q.lim, .string q.page] := by rw [hw1]; exact CB.new w 31 _
  have hs1 : w1.heap.size = w.heap.size + 1 := by rw [hw1]; simp
  have HB1 := Lib.hid hb1
  have HQ1 := Lib.hid hq1
  have HS1 := Lib.hid hs1
  have HW1 := Lib.hid hw1.symm
  have HM := Lib.hid hm
  have HK := Lib.hid hk
  have HF := Lib.hid hf
  have HFI := Lib.hid hfine
  have HN := Lib.hid hn
  have HRC := Lib.hid hrc
  have HHSH0 := Lib.hid hSh
  clear hm hk hr hrc hb1 hq1 hw1 hs1 hf hfine hn hSh
  simp only [Qy.val]
  go_enter Try.func7, Try.ntmps7
  go_wp2_with fail
  rw [HW1.out]
  go_loopw [12, 5] (fun vi vb wr => ∃ (i : Nat) (R : List (Value × Ent)), vi = .int .i64 i ∧ i ≤ rows.length ∧ Rk 3 (fun b => w1.heap.size ≤ b) wr vb R.length (flatR R) ∧ RawL (fun b => b < w1.heap.size) wr R ∧ R.map Prod.snd = kept q (rows.take i) ∧ Below w1.heap.size w1 wr) (fun vi _ _ => rows.length - (intOf vi).toNat)
  case atStart => exact ⟨0, [], rfl, Nat.zero_le _, Rk.nil 3 _ _, fun x hx => by simp at hx, by simp [kept], Below.refl _ _⟩
  case round =>
    obtain ⟨i, R, rfl, hi, hrk, hrl, hR, hb⟩ := hrel
    have HRK := Lib.hid hrk
    have HRL := Lib.hid hrl
    have HR := Lib.hid hR
    have HB := Lib.hid hb
    clear hrk hrl hR
    by_cases hlt : i < rows.length
    · rcases HRC.out with h0 | ⟨br, off, rfl, hbr, hcells⟩
      · exact absurd hlt (by rw [h0]; simp)
      obtain ⟨rv', hc, hes⟩ := hcells i hlt
      have hbw := below_mid HB1.out hb
      have hc' : wr.cell? ⟨br, off + i, none⟩ = some rv' := (hbw.cell hbr).trans hc
      have hfe : ∀ e ∈ rows[i], e.line.size ≤ 100000 := HFI.out _ (List.getElem_mem hlt)
      have hlen : ∀ j, (kept q (rows.take i)).length + ((rows[i].take j).filter (keepsQ q)).length ≤ 1000 := fun j => Nat.le_trans (take_flat_len rows i j hlt q) HN.out
      have hkt := kept_take q rows i hlt
      generalize rows[i] = es at hes hfe hlen hkt
      obtain ⟨ae, ce, rfl, he63, hec⟩ := id hes
      have HFE := Lib.hid hfe
      have HLEN := Lib.hid hlen
      have HKT := Lib.hid hkt
      have HEC := Lib.hid hec
      clear hes hfe hlen hkt hec hc hcells hb hbw
      go_wp2_with fail
      clear hc'
      go_loopw [18, 5] (fun vj vb wr => ∃ (j : Nat) (S : List (Value × Ent)), vj = .int .i64 j ∧ j ≤ es.length ∧ Rk 3 (fun b => w1.heap.size ≤ b) wr vb S.length (flatR S) ∧ RawL (fun b => b < w1.heap.size) wr S ∧ S.map Prod.snd = kept q (rows.take i) ++ (es.take j).filter (keepsQ q) ∧ Below w1.heap.size w1 wr) (fun vj _ _ => es.length - (intOf vj).toNat)
      case atStart => exact ⟨0, R, rfl, Nat.zero_le _, HRK.out, HRL.out, by rw [HR.out]; simp, HB.out⟩
      case round =>
        obtain ⟨j, S, rfl, hj, hsk, hsl, hS, hbj⟩ := hrel
        have HSK := Lib.hid hsk
        have HSL := Lib.hid hsl
        have HSS := Lib.hid hS
        have HBJ := Lib.hid hbj
        clear hsk hsl hS
        by_cases hjl : j < es.length
        · rcases HEC.out with h0 | ⟨be, oe, rfl, _, hbe, hce⟩
          · exact absurd hjl (by rw [h0]; simp)
          obtain ⟨lv, x0, x1, x2, x3⟩ := hce j hjl
          have hbwi := below_mid HB1.out hbj
          have hline := HFE.out _ (List.getElem_mem hjl)
          have hft := filter_take (keepsQ q) es j hjl
          have hl1 := HLEN.out j
          generalize es[j] = e at x0 x1 x2 x3 hline hft
          obtain ⟨al, cl, rfl, hl63, _⟩ := id x3
          have y0 : wr.cell? ⟨be, oe + j * 3, none⟩ = _ := (hbwi.cell hbe).trans x0
          have y1 : wr.cell? ⟨be, oe + j * 3 + 1, none⟩ = _ := (hbwi.cell hbe).trans x1
          have y2 : wr.cell? ⟨be, oe + j * 3 + 2, none⟩ = _ := (hbwi.cell hbe).trans x2
          have hqi := cb_below HQ1.out hbj
          have c0 := hqi.cell 0
          have c1 := hqi.cell 1
          have c2 := hqi.cell 2
          have c3 := hqi.cell 3
          have c4 := hqi.cell 4
          have c5 := hqi.cell 5
          have c6 := hqi.cell 6
          have c7 := hqi.cell 7
          have c8 := hqi.cell 8
          have c9 := hqi.cell 9
          simp only [List.getElem?_toArray, List.getElem?_cons_succ, List.getElem?_cons_zero] at c0 c1 c2 c3 c4 c5 c6 c7 c8 c9
          have hqlt := hqi.lt
          have hb6 : Below wr.heap.size wr (wr.alloc (.cells #[.int .i64 e.tm, .slice al e.labs.length cl, .string e.line] 39)) := (Below.refl _ wr).alloc (Nat.le_refl _) _
          have hbw6 := below_mid hbwi hb6
          have he6 := CB.new wr 39 #[.int .i64 e.tm, .slice al e.labs.length cl, .string e.line]
          have hlab : LabsAt (fun _ => True) (wr.alloc (.cells #[.int .i64 e.tm, .slice al e.labs.length cl, .string e.line] 39)) (.slice al e.labs.length cl) e.labs := x3.below1 hbw6
          have HKQ := Lib.hid (query_keeps q (q.val (.slice am q.mat.length cm) (.slice ak q.fil.kids.length ck)) e (.slice al e.labs.length cl) (wr.alloc (.cells #[.int .i64 e.tm, .slice al e.labs.length cl, .string e.line] 39)) ⟨_, _, rfl, HM.out.below9 hbw6, KsAt.below hbw6 _ _ HK.out⟩ HF.out hline hlab (shaped_below HHSH0.out hbw6))
          have HB6 := Lib.hid hb6
          have HE6 := Lib.hid he6
          have HL6 := Lib.hid hlab
          have HLN := Lib.hid hl1
          have HFT := Lib.hid hft
          have HX3 := Lib.hid x3
          simp only [Qy.val, Ent.val] at HKQ
          clear x0 x1 x2 x3 hbwi hbj hqi hb6 hbw6 he6 hlab hce hline hl1 hft
          cases hkq : keepsQ q e with
          | false =>
            rw [hkq] at HKQ HFT
            go_wp2_with (go_at_call 14; refine HKQ.out.mono ?_; rintro r w7 ⟨rfl, hb7⟩)
            have HB7 := Lib.hid (below_mid HB6.out hb7)
            clear hb7 HKQ c0 c1 c2 c3 c4 c5 c6 c7 c8 c9 y0 y1 y2
            go_wp2
            go_roundw
            case rel => exact ⟨j + 1, S, by go_num, by omega, HSK.out.below1 HB7.out, HSL.out.below1 HB7.out, by rw [HSS.out, HFT.out]; simp, below_mid HBJ.out HB7.out⟩
            case measure => simp [intOf]; omega
          | true =>
            rw [hkq] at HKQ HFT
            go_wp2_with fail
            refine HKQ.out.mono ?_
            rintro r w7 ⟨rfl, hb7⟩
            have HB7 := Lib.hid (below_mid HB6.out hb7)
            have he7 := cb_below HE6.out hb7
            have d0 := he7.cell 0
            have d1 := he7.cell 1
            have d2 := he7.cell 2
            simp only [List.getElem?_toArray, List.getElem?_cons_succ, List.getElem?_cons_zero] at d0 d1 d2
            have HSK7 := Lib.hid (HSK.out.below1 HB7.out)
            have HL7 := Lib.hid (HL6.out.below1 hb7)
            have hsrc : Src Try.prog 3 33 (.slice (some ⟨w7.heap.size, 0, none⟩) 1 1) 1 (flatR [((.slice al e.labs.length cl : Value), e)]) (w7.alloc (.cells #[.int .i64 e.tm, .slice al e.labs.length cl, .string e.line] 39)) :=
              Rk.src Try.underlying33 (rk_new 3 w7 1 (flatR [((.slice al e.labs.length cl : Value), e)]) 39 rfl (by omega)) (fun u hu => by
                simp only [flatR, rawC, List.append_nil, List.mem_cons, List.not_mem_nil, or_false] at hu
                rcases hu with rfl | rfl | rfl <;> rfl)
            have HSRC := Lib.hid hsrc
            have hsl : S.length ≤ 1000 := by
              have h1 := congrArg List.length HSS.out
              have h2 := HLN.out
              rw [List.length_map, List.length_append] at h1
              omega
            have hw17 : w1.heap.size ≤ w7.heap.size := Nat.le_trans HBJ.out.size HB7.out.size
            have HW17 := Lib.hid hw17
            clear hb7 HKQ c0 c1 c2 c3 c4 c5 c6 c7 c8 c9 y0 y1 y2 hsrc hqlt he7 hw17
            go_wp2_with (at_builtin; refine wpList_append_rk E24 _ rfl _ _ 33 rfl (G := fun b => w1.heap.size ≤ b) rfl (HSK7.out.alloc _) ?c1 (.slice (some ⟨w7.heap.size, 0, none⟩) 1 1) 1 (flatR [((.slice al e.labs.length cl : Value), e)]) rfl HSRC.out ?c3 ?c4 ?_)
            case c1 =>
              intro k hk
              have h1 := HW17.out
              simp at hk
              omega
            case c3 => omega
            case c4 => omega
            intro v' w8 hrk8 hk8
            have hba : Below w7.heap.size w7 (w7.alloc (.cells #[.int .i64 e.tm, .slice al e.labs.length cl, .string e.line] 39)) := (Below.refl _ w7).alloc (Nat.le_refl _) _
            have hb1a := below_mid (below_mid HBJ.out HB7.out) hba
            have hb8 : Below w1.heap.size w1 w8 := keep_below (HSK7.out.alloc _) (fun b hb => hb) hb1a hk8
            have HRK8 : Hid (Rk 3 (fun b => w1.heap.size ≤ b) w8 v' (S ++ [((.slice al e.labs.length cl : Value), e)]).length (flatR (S ++ [((.slice al e.labs.length cl : Value), e)]))) := Lib.hid (by
              have := hrk8.mono (G' := fun b => w1.heap.size ≤ b) fun b hb _ => hb.1
              rw [flatR_append, List.length_append]
              exact this)
            have hbw8 := below_mid HB1.out hb8
            have hsz8 : wr.heap.size ≤ w8.heap.size := by
              have h1 := HB7.out.size
              have h2 := hba.size
              have h3 := hk8.size
              omega
            have hraw : RawL (fun b => b < w1.heap.size) w8 (S ++ [((.slice al e.labs.length cl : Value), e)]) := fun z hz => by
              rcases List.mem_append.1 hz with hz | hz
              · exact (HSL.out z hz).both HBJ.out hb8 hsz8
              · obtain rfl := List.mem_singleton.1 hz
                exact (HX3.out.mono (H := fun b => b < w1.heap.size) (fun b _ hlt => Nat.lt_of_lt_of_le hlt HB1.out.size)).carry hbw8.size (fun b _ hlt => hbw8.block b hlt)
            have HRAW := Lib.hid hraw
            have HB8 := Lib.hid hb8
            clear hrk8 hk8 hba hb1a hb8 hraw hbw8 hsz8 d0 d1 d2
            go_wp2
            go_roundw
            case rel => exact ⟨j + 1, S ++ [((.slice al e.labs.length cl : Value), e)], by go_num, by omega, HRK8.out, HRAW.out, by rw [List.map_append, HSS.out, HFT.out, List.append_assoc]; rfl, HB8.out⟩
            case measure => simp [intOf]; omega
        · obtain rfl : j = es.length := by omega
          clear hbj
          go_wp2_with fail
          go_roundw
          case rel => exact ⟨i + 1, S, by go_num, by omega, HSK.out, HSL.out, by rw [HSS.out, HKT.out, List.take_of_length_le (Nat.le_refl _)], HBJ.out⟩
          case measure => simp [intOf]; omega
    · obtain rfl : i = rows.length := by omega
      have hqi := cb_below HQ1.out hb
      have c7 := hqi.cell 7
      simp only [List.getElem?_toArray, List.getElem?_cons_succ, List.getElem?_cons_zero] at c7
      have hR' : R.map Prod.snd = kept q rows := by rw [HR.out, List.take_of_length_le (Nat.le_refl _)]
      have hents := HRK.out.ents HRL.out
      rw [hR'] at hents
      have HST := Lib.hid (sort_any q.desc hents (Nat.le_trans (kept_len q rows) (Nat.le_trans HN.out (by decide))))
      have HSZ : Hid (w.heap.size ≤ wr.heap.size) := Lib.hid (by have := HS1.out; have := hb.size; omega)
      clear hb hqi hR' hents
      go_wp2_with fail
      refine HST.out.mono ?_
      rintro r w9 hp
      obtain ⟨v9, R9, rfl, hrk9, hrl9, hso, hl9⟩ := hp
      have HE9 := Lib.hid (hrk9.ents hrl9)
      have HSQ := Lib.hid hrk9.sq
      have HSO := Lib.hid hso
      have HB9 := Lib.hid (below_mid (below_mid HB1.out HB.out) (lay_below hl9))
      clear hrk9 hrl9 hso hl9 HST
      go_wp2_with fail
      go_ret
      exact ⟨v9, R9.map Prod.snd, rfl, HE9.out.mono (fun b hb _ => Nat.le_trans HSZ.out hb) (fun _ _ _ => trivial), by rw [List.length_map]; exact HSQ.out, HSO.out, HB9.out⟩

end Go.Proofs.Ytidjodplimkmgaa.E4
