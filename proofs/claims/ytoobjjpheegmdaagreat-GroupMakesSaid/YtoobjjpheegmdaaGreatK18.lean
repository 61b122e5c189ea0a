/-
  Rh13.
-/
import Derived.Test.YtoobjjpheegmdaaGreatK13
import Derived.Test.YtoobjjpheegmdaaGreatK17
namespace Go.Proofs.YtoobjjpheegmdaaGreat.E4
open Go.RowKit Go
open Go.Sort (grow)
def satE (es : List Ent) (p : Nat) (r : List ByteArray) : Bool := (es[p]?).any fun e => r.any (H3.hasB e.line)
def cntE (es : List Ent) (rows : List (List ByteArray)) (p : Nat) : Nat := (rows.takeWhile (satE es p)).length
def midE (c : Nat → Nat) (i : Nat) (q : Nat → Bool) (p : Nat) : Nat := if c p = i ∧ q p = true then i + 1 else c p
theorem cntE_take {es : List Ent} {rows : List (List ByteArray)} {i : Nat} (h : i < rows.length) (p : Nat) : cntE es (rows.take (i + 1)) p = midE (cntE es (rows.take i)) i (fun p => satE es p rows[i]) p := by
  unfold midE cntE
  rw [← List.take_append_getElem h, List.takeWhile_append]
  have hl : (rows.take i).length = i := by rw [List.length_take]; omega
  rw [hl]
  by_cases h1 : ((rows.take i).takeWhile (satE es p)).length = i
  · rw [if_pos h1]
    simp only [List.takeWhile_cons, List.takeWhile_nil]
    by_cases h2 : satE es p rows[i] = true
    · rw [if_pos h2, if_pos ⟨h1, h2⟩, List.length_append, hl]; rfl
    · rw [if_neg h2, if_neg (fun h => h2 h.2), List.append_nil, hl, h1]
  · rw [if_neg h1, if_neg (fun h => h1 h.1)]
theorem cntE_all (es : List Ent) (rows : List (List ByteArray)) (p : Nat) : cntE es rows p = rows.length ↔ rows.all (satE es p) = true := by
  unfold cntE
  induction rows with
  | nil => simp
  | cons r l ih =>
    rw [List.takeWhile_cons, List.all_cons]
    cases h : satE es p r with
    | true => simp [ih]
    | false => simp
theorem midE_none (c : Nat → Nat) (i : Nat) (p : Nat) : midE c i (fun _ => false) p = c p := by unfold midE; simp
theorem midE_congr {c : Nat → Nat} {i : Nat} {q q' : Nat → Bool} {p : Nat} (h : q p = q' p) : midE c i q p = midE c i q' p := by unfold midE; rw [h]
theorem midE_up {c : Nat → Nat} {i at_ : Nat} {q q' : Nat → Bool} (hq : ∀ p, q' p = (q p || decide (p = at_))) (h : midE c i q at_ = i) (p : Nat) : (if p = at_ then i + 1 else midE c i q p) = midE c i q' p := by
  unfold midE at h ⊢
  rw [hq]
  by_cases e : p = at_
  · subst e
    rw [if_pos rfl, decide_eq_true rfl, Bool.or_true]
    by_cases h1 : c p = i
    · rw [if_pos ⟨h1, rfl⟩]
    · rw [if_neg (fun h => h1 h.1)] at h
      exact absurd h h1
  · rw [if_neg e, decide_eq_false e, Bool.or_false]
theorem midE_stay {c : Nat → Nat} {i at_ : Nat} {q q' : Nat → Bool} (hq : ∀ p, q' p = (q p || decide (p = at_))) (h : ¬ midE c i q at_ = i) (p : Nat) : midE c i q p = midE c i q' p := by
  unfold midE at h ⊢
  rw [hq]
  by_cases e : p = at_
  · subst e
    rw [decide_eq_true rfl, Bool.or_true]
    by_cases h1 : c p = i
    · cases h2 : q p with
      | true => rfl
      | false => rw [h2, if_neg (by simp)] at h; exact absurd h1 h
    · rw [if_neg (fun h => h1 h.1), if_neg (fun h => h1 h.1)]
  · rw [decide_eq_false e, Bool.or_false]
def HadAt (w : World) (hb n : Nat) (h : Nat → Nat) : Prop := Bl w hb 3 (ints ((List.range n).map h)).toArray
theorem had_list (n : Nat) (h : Nat → Nat) (p : Nat) (hp : p < n) : (ints ((List.range n).map h)).toArray[p]? = some (.int .i64 (h p : Int)) := by
  rw [List.getElem?_toArray, ints_get _ _ (by simpa using hp)]
  simp
theorem HadAt.cell {w : World} {hb n : Nat} {h : Nat → Nat} (k : HadAt w hb n h) (p : Nat) (hp : p < n) : w.cell? ⟨hb, p, none⟩ = some (.int .i64 (h p : Int)) := (Bl.cell k p).trans (had_list n h p hp)
theorem HadAt.congr {w : World} {hb n : Nat} {h h' : Nat → Nat} (k : HadAt w hb n h) (e : ∀ p, p < n → h p = h' p) : HadAt w hb n h' := by
  unfold HadAt at k ⊢
  rwa [show (List.range n).map h' = (List.range n).map h from List.map_congr_left fun p hp => (e p (List.mem_range.1 hp)).symm]
theorem HadAt.set {w : World} {hb n : Nat} {h : Nat → Nat} (k : HadAt w hb n h) (p : Nat) (hp : p < n) (v : Nat) : HadAt (w.setCell ⟨hb, p, none⟩ (.int .i64 (v : Int))) hb n (fun q => if q = p then v else h q) := by
  have := Bl.set12 k p (.int .i64 (v : Int))
  unfold HadAt
  rw [show (ints ((List.range n).map fun q => if q = p then v else h q)).toArray = (ints ((List.range n).map h)).toArray.setIfInBounds p (.int .i64 (v : Int)) from ?_]
  · exact this
  · rw [List.setIfInBounds_toArray]
    congr 1
    refine List.ext_getElem? fun j => ?_
    rw [List.getElem?_set]
    simp only [ints, List.getElem?_map, List.length_map, List.length_range]
    by_cases hj : j < n
    · rw [List.getElem?_range hj]
      by_cases e : p = j
      · subst e; rw [if_pos rfl, if_pos hj]; simp
      · rw [if_neg e]; simp [Ne.symm e]
    · rw [List.getElem?_eq_none (by simpa using hj)]
      by_cases e : p = j
      · subst e; rw [if_pos rfl, if_neg hj]; rfl
      · rw [if_neg e]; rfl
theorem posF_has {es : List Ent} {s : ByteArray} {p : Nat} (hp : p < es.length) (r : List ByteArray) : ((es[p]?).any (fun e => r.any (H3.hasB e.line)) || decide (p ∈ posF es s)) = (es[p]?).any fun e => (r ++ [s]).any (H3.hasB e.line) := by
  rw [List.getElem?_eq_getElem hp]
  simp only [Option.any_some, List.any_append, List.any_cons, List.any_nil, Bool.or_false]
  congr 1
  rw [Bool.eq_iff_iff, decide_eq_true_eq, mem_posF]
  exact ⟨fun ⟨_, h⟩ => h, fun h => ⟨hp, h⟩⟩
theorem take_mem {l : List Nat} {k : Nat} (h : k < l.length) (p : Nat) : decide (p ∈ l.take (k + 1)) = (decide (p ∈ l.take k) || decide (p = l[k])) := by
  have e : (p ∈ l.take (k + 1)) ↔ (p ∈ l.take k ∨ p = l[k]) := by rw [← List.take_append_getElem h, List.mem_append, List.mem_singleton]
  rw [Bool.eq_iff_iff]
  simp only [Bool.or_eq_true, decide_eq_true_eq]
  exact e
theorem satE_nil (es : List Ent) (p : Nat) : satE es p [] = false := by
  unfold satE
  cases es[p]? <;> rfl
set_option maxHeartbeats 8000000 in
set_option maxRecDepth 100000 in
theorem rowsHad_any {w : World} {B gb : Nat} {es : List Ent} {av : Value} {rows : List (List ByteArray)} (h : EngAt3 w B gb es) (hr : TextsAt w av rows) (hw : ∀ l ∈ rows, ∀ s ∈ l, s.size ≤ 100000) (hn : es.length ≤ 1000) :
    Calls Tryz.prog 93 #[.pointer (some ⟨gb, 0, none⟩), av] w fun x w' => x = .returned (.slice (some ⟨w.heap.size, 0, none⟩) es.length es.length) ∧ HadAt w' w.heap.size es.length (cntE es rows) ∧ Lay w w' := by
  obtain ⟨κ, kb, pb, m, n, v, R, hE, hR, _, _⟩ := id h
  obtain ⟨ev, cv, rfl⟩ := hE.e.shape
  have hRn : R.length = es.length := by rw [← hR, List.length_map]
  obtain ⟨a, c, rfl, h63, hc⟩ := id hr
  obtain ⟨f, hp1, hp2, _⟩ := hE.p
  obtain ⟨iI, hI1, hI2, hI3, hI4⟩ := info_parts infoI
  obtain ⟨W1, hW1⟩ : ∃ W1, W1 = w.alloc (.cells (madeCells #[.int .i64 0] es.length) 3) := ⟨_, rfl⟩
  have hmk : (Instr.makeSlice 22 (.int .i64 (es.length : Int)) (.int .i64 (es.length : Int))).run Tryz.prog w = .ok (.slice (some ⟨w.heap.size, 0, none⟩) es.length es.length) W1 := by
    have := run_makeSlice (P := Tryz.prog) w 22 3 iI (.int .i64 0) Tryz.underlying22 hI1 hI2 .i64 .i64 (es.length : Int) (es.length : Int) (by omega) (by omega) (by rw [hI3]; omega) (by rw [hI4]; omega) (by omega)
    rw [this, hI3, hW1]
    simp [Value.cells]
  have hl1 : Lay w W1 := by rw [hW1]; exact (Keep.refl _ _).alloc _
  have hh1 : HadAt W1 w.heap.size es.length (cntE es []) := by
    unfold HadAt
    rw [hW1, show (ints ((List.range es.length).map (cntE es []))).toArray = madeCells #[.int .i64 0] es.length from ?_]
    · exact Bl.new w 3 _
    · rw [← Array.toList_inj, toList_madeCells_one, show (List.range es.length).map (cntE es []) = List.replicate es.length 0 from by rw [show cntE es [] = fun _ => 0 from funext fun p => rfl]; simp [List.map_const'], List.toList_toArray]
      simp [ints]
  have c0 := hE.c.cell 0
  have c1 := hE.c.cell 1
  have c2 := hE.c.cell 2
  simp only [List.getElem?_toArray, List.getElem?_cons_succ, List.getElem?_cons_zero] at c0 c1 c2
  rw [hRn] at c0
  have HCE : Hid (Bl w gb 96 #[.slice ev es.length cv, .map (some kb), .map (some pb)]) := Lib.hid (by have := hE.c; rwa [hRn] at this)
  have HC := Lib.hid hc
  have HM := Lib.hid hp1
  have HP := Lib.hid (fun s => by have := hp2 s; rwa [hR] at this)
  have HL1 := Lib.hid hl1
  have HH1 := Lib.hid hh1
  have HWS := Lib.hid hw
  have hgl := hE.c.lt
  clear hE hR hRn hc hp1 hp2 hl1 hh1 hw hr h hI1 hI2 hI3 hI4 hW1
  go_enter Tryz.func93, Tryz.ntmps93
  go_wp2_with fail
  clear c0 c1 c2 hmk
  go_loopw [20] (fun vi wr => ∃ i : Nat, vi = .int .i64 i ∧ i ≤ rows.length ∧ HadAt wr w.heap.size es.length (cntE es (rows.take i)) ∧ Keep (fun b => b = w.heap.size) W1 wr) (fun vi _ => rows.length - (intOf vi).toNat)
  case atStart => exact ⟨0, rfl, Nat.zero_le _, HH1.out, Keep.refl _ _⟩
  case round =>
    obtain ⟨i, rfl, hi, hh, hk⟩ := hrel
    have HHd := Lib.hid hh
    have HKK := Lib.hid hk
    clear hh
    by_cases hlt : i < rows.length
    · rcases HC.out with h0 | ⟨br, orr, rfl, hbr, hcr⟩
      · exact absurd hlt (by rw [h0]; simp)
      obtain ⟨rv, x0, x1⟩ := hcr i hlt
      have hold : ∀ b, b < w.heap.size → wr.heap[b]? = w.heap[b]? := fun b hb => (hk.block b (Nat.lt_of_lt_of_le hb HL1.out.size) (by omega)).trans (Lay.block HL1.out hb)
      have y0 : wr.cell? ⟨br, orr + i, none⟩ = some rv := (World.cell?_of_block (a := ⟨br, orr + i, none⟩) (hold br hbr)).trans x0
      have hct := fun p => cntE_take (es := es) hlt p
      have hws := HWS.out _ (List.getElem_mem hlt)
      generalize rows[i] = r at x1 hct hws
      obtain ⟨ar, cr, rfl, hr63, hrc⟩ := id x1
      have HRC := Lib.hid hrc
      have HCT := Lib.hid hct
      have HWR := Lib.hid hws
      clear x0 x1 hct hws hrc hold hk hcr
      go_wp2_with fail
      go_loopw [27] (fun vj wq => ∃ j : Nat, vj = .int .i64 j ∧ j ≤ r.length ∧ HadAt wq w.heap.size es.length (midE (cntE es (rows.take i)) i (fun p => satE es p (r.take j))) ∧ Keep (fun b => b = w.heap.size) W1 wq) (fun vj _ => r.length - (intOf vj).toNat)
      case atStart => exact ⟨0, rfl, Nat.zero_le _, HHd.out.congr (fun p _ => by rw [List.take_zero]; exact ((midE_congr (q' := fun _ => false) (satE_nil es p)).trans (midE_none _ _ _)).symm), HKK.out⟩
      case round =>
        obtain ⟨j, rfl, hj, hhj, hkj⟩ := hrel
        have HHJ := Lib.hid hhj
        have HKJ := Lib.hid hkj
        clear hhj
        by_cases hjl : j < r.length
        · rcases HRC.out with h0 | ⟨bl, ol, rfl, hbl, hcl⟩
          · exact absurd hjl (by rw [h0]; simp)
          have hold : ∀ b, b < w.heap.size → wr.heap[b]? = w.heap[b]? := fun b hb => (hkj.block b (Nat.lt_of_lt_of_le hb HL1.out.size) (by omega)).trans (Lay.block HL1.out hb)
          have z0 : wr.cell? ⟨bl, ol + j, none⟩ = some (.string r[j]) := (World.cell?_of_block (a := ⟨bl, ol + j, none⟩) (hold bl hbl)).trans (hcl j hjl)
          have hss := HWR.out _ (List.getElem_mem hjl)
          have htk : r.take (j + 1) = r.take j ++ [r[j]] := (List.take_append_getElem hjl).symm
          generalize r[j] = s at z0 hss htk
          have hsm : s.size ≤ maxLen := by unfold maxLen; omega
          have hlk : (Instr.lookup 94 (.map (some pb)) (.string s) false).run Tryz.prog wr = .ok (atK f s) wr := (HM.out.carry (hold pb HM.out.lt)).look Tryz.underlying9 Tryz.underlying94 (by kernel_rfl) hsm
          obtain ⟨pa, pc, hpv, hpc⟩ : ∃ pa pc, atK f s = .slice pa (posF es s).length pc ∧ ∀ k (hk : k < (posF es s).length), ∃ q, pa = some ⟨q, 0, none⟩ ∧ q < w.heap.size ∧ w.cell? ⟨q, k, none⟩ = some (.int .i64 ((posF es s)[k] : Int)) := by
            obtain ⟨_, ⟨h1, h2⟩ | ⟨q, cap, h1, _, h2, _, _, h3, _⟩⟩ := HP.out s
            · exact ⟨none, 0, by rw [h1, h2], fun k hk => by omega⟩
            · exact ⟨_, cap, h1, fun k hk => ⟨q, rfl, h2, (h3 k (by rw [ints_len]; exact hk)).trans (ints_get _ _ _)⟩⟩
          rw [hpv] at hlk
          have hge := hold gb hgl
          have e2 : wr.cell? ⟨gb, 2, none⟩ = some (.map (some pb)) := (World.cell?_of_block (a := ⟨gb, 2, none⟩) hge).trans (HCE.out.cell 2)
          have HPC := Lib.hid hpc
          have HTK := Lib.hid htk
          have HPL : Hid ((posF es s).length ≤ 1000) := Lib.hid (Nat.le_trans (posF_len es s) hn)
          clear hpc htk hsm hss hpv hold hkj hge hcl
          go_wp2_with fail
          clear hlk z0 e2
          go_loopw [38] (fun vk wq => ∃ k : Nat, vk = .int .i64 k ∧ k ≤ (posF es s).length ∧ HadAt wq w.heap.size es.length (midE (cntE es (rows.take i)) i (fun p => satE es p (r.take j) || decide (p ∈ (posF es s).take k))) ∧ Keep (fun b => b = w.heap.size) W1 wq) (fun vk _ => (posF es s).length - (intOf vk).toNat)
          case atStart => exact ⟨0, rfl, Nat.zero_le _, HHJ.out.congr (fun p _ => midE_congr (by simp)), HKJ.out⟩
          case round =>
            obtain ⟨k, rfl, hk, hhk, hkk⟩ := hrel
            have HKK2 := Lib.hid hkk
            have hpl := HPL.out
            by_cases hkl : k < (posF es s).length
            · obtain ⟨q, rfl, hq, hcq⟩ := HPC.out k hkl
              have z1 : wr.cell? ⟨q, k, none⟩ = some (.int .i64 ((posF es s)[k] : Int)) := (World.cell?_of_block (a := ⟨q, k, none⟩) ((hkk.block q (Nat.lt_of_lt_of_le hq HL1.out.size) (by omega)).trans (Lay.block HL1.out hq))).trans hcq
              have hat : (posF es s)[k] < es.length := (mem_posF.1 (List.getElem_mem hkl)).1
              have hmem := take_mem hkl
              generalize (posF es s)[k] = at_ at z1 hat hmem
              have z2 := hhk.cell at_ hat
              have z3 := Bl.frozen hhk at_
              have hup := midE_up (c := cntE es (rows.take i)) (i := i) (at_ := at_) (q := fun p => satE es p (r.take j) || decide (p ∈ (posF es s).take k)) (q' := fun p => satE es p (r.take j) || decide (p ∈ (posF es s).take (k + 1))) (fun p => by rw [hmem, Bool.or_assoc])
              have hst := midE_stay (c := cntE es (rows.take i)) (i := i) (at_ := at_) (q := fun p => satE es p (r.take j) || decide (p ∈ (posF es s).take k)) (q' := fun p => satE es p (r.take j) || decide (p ∈ (posF es s).take (k + 1))) (fun p => by rw [hmem, Bool.or_assoc])
              have d1 : ¬ (at_ : Int) < 0 := by omega
              have d2 : (at_ : Int) < (es.length : Int) := by omega
              by_cases hq1 : midE (cntE es (rows.take i)) i (fun p => satE es p (r.take j) || decide (p ∈ (posF es s).take k)) at_ = i
              · have hset := hhk.set at_ hat (i + 1)
                have HN : Hid (HadAt (wr.setCell ⟨w.heap.size, at_, none⟩ (.int .i64 ((i + 1 : Nat) : Int))) w.heap.size es.length (midE (cntE es (rows.take i)) i (fun p => satE es p (r.take j) || decide (p ∈ (posF es s).take (k + 1)))) ∧ Keep (fun b => b = w.heap.size) W1 (wr.setCell ⟨w.heap.size, at_, none⟩ (.int .i64 ((i + 1 : Nat) : Int)))) := Lib.hid ⟨hset.congr fun p _ => hup hq1 p, keep_set12 hkk _ _⟩
                rw [hq1] at z2
                clear hset hup hst hq1 hhk hkk hmem hcq
                go_wp2_with fail
                go_roundw
                case rel => exact ⟨k + 1, by go_num, hkl, HN.out.1, HN.out.2⟩
                case measure => simp [intOf]; omega
              · have HN : Hid (HadAt wr w.heap.size es.length (midE (cntE es (rows.take i)) i (fun p => satE es p (r.take j) || decide (p ∈ (posF es s).take (k + 1)))) ∧ Keep (fun b => b = w.heap.size) W1 wr) := Lib.hid ⟨hhk.congr fun p _ => hst hq1 p, hkk⟩
                have hne : ¬ (midE (cntE es (rows.take i)) i (fun p => satE es p (r.take j) || decide (p ∈ (posF es s).take k)) at_ : Int) = (i : Int) := by omega
                generalize midE (cntE es (rows.take i)) i (fun p => satE es p (r.take j) || decide (p ∈ (posF es s).take k)) at_ = mv at z2 hne
                have hnb : ((mv : Int) == (i : Int)) = false := by simpa using hne
                clear hup hst hq1 hhk hkk hmem hcq hne
                go_wp2_with fail
                go_roundw
                case rel => exact ⟨k + 1, by go_num, by omega, HN.out.1, HN.out.2⟩
                case measure => simp [intOf]; omega
            · obtain rfl : k = (posF es s).length := by omega
              have HN : Hid (HadAt wr w.heap.size es.length (midE (cntE es (rows.take i)) i (fun p => satE es p (r.take (j + 1))))) := Lib.hid (hhk.congr fun p hp => midE_congr (by rw [List.take_of_length_le (Nat.le_refl _), HTK.out]; exact posF_has hp (r.take j)))
              clear hhk hkk
              go_wp2_with fail
              go_roundw
              case rel => exact ⟨j + 1, by go_num, by omega, HN.out, HKK2.out⟩
              case measure => simp [intOf]; omega
        · obtain rfl : j = r.length := by omega
          have HN : Hid (HadAt wr w.heap.size es.length (cntE es (rows.take (i + 1)))) := Lib.hid (HHJ.out.congr fun p _ => by rw [List.take_of_length_le (Nat.le_refl _)]; exact (HCT.out p).symm)
          clear hkj
          go_wp2_with fail
          go_roundw
          case rel => exact ⟨i + 1, by go_num, by omega, HN.out, HKJ.out⟩
          case measure => simp [intOf]; omega
    · obtain rfl : i = rows.length := by omega
      have HEND : Hid (HadAt wr w.heap.size es.length (cntE es rows) ∧ Lay w wr) := Lib.hid ⟨by have := HHd.out; rwa [List.take_of_length_le (Nat.le_refl _)] at this, Keep.into (Keep.trans (HL1.out.into (H := fun b => w.heap.size ≤ b) fun _ _ h => h.elim) (hk.into fun b _ hb => Nat.le_of_eq hb.symm)) fun b hlt hb => by omega⟩
      clear hk
      go_wp2_with fail
      go_ret
      exact ⟨rfl, HEND.out⟩
end Go.Proofs.YtoobjjpheegmdaaGreat.E4
