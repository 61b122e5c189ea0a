/-
  Rh13, Fo13, Cw12.
-/
import Derived.Test.YtoobjjpheegmdaaGreatJ12
import Derived.Test.YtoobjjpheegmdaaGreatJ16
import Derived.Test.YtoobjjpheegmdaaGreatJ11
import Derived.Test.YtoobjjpheegmdaaGreatJ06
namespace Go.Proofs.YtoobjjpheegmdaaGreat.E4
open Go.RowKit Go
open Go.Sort (grow)
def satE (es : List Ent) (p : Nat) (r : List ByteArray) : Bool := (es[p]?).any fun e => r.any (H3.hasB e.line)
def cntE (es : List Ent) (rows : List (List ByteArray)) (p : Nat) : Nat := (rows.takeWhile (satE es p)).length
def midE (c : Nat → Nat) (i : Nat) (q : Nat → Bool) (p : Nat) : Nat := if c p = i ∧ q p = true then i + 1 else c p
theorem cntE_take {es : List Ent} {rows : List (List ByteArray)} {i : Nat} (h : i < rows.length) (p : Nat) : cntE es (rows.take (i + 1)) p = midE (cntE es (rows.take i)) i (fun p => satE es p rows[i]) p := by
  unfold midE cntE
  rw [← List.take_append_getElem h, List.takeWhile_append]
  have hl : (rows.take i).length = i := by rw [List.length_take]; omega
  rw [hl]
  by_cases h1 : ((rows.take i).takeWhile (satE es p)).length = i
  · rw [if_pos h1]
    simp only [List.takeWhile_cons, List.takeWhile_nil]
    by_cases h2 : satE es p rows[i] = true
    · rw [if_pos h2, if_pos ⟨h1, h2⟩, List.length_append, hl]; rfl
    · rw [if_neg h2, if_neg (fun h => h2 h.2), List.append_nil, hl, h1]
  · rw [if_neg h1, if_neg (fun h => h1 h.1)]
theorem cntE_all (es : List Ent) (rows : List (List ByteArray)) (p : Nat) : cntE es rows p = rows.length ↔ rows.all (satE es p) = true := by
  unfold cntE
  induction rows with
  | nil => simp
  | cons r l ih =>
    rw [List.takeWhile_cons, List.all_cons]
    cases h : satE es p r with
    | true => simp [ih]
    | false => simp
theorem midE_none (c : Nat → Nat) (i : Nat) (p : Nat) : midE c i (fun _ => false) p = c p := by unfold midE; simp
theorem midE_congr {c : Nat → Nat} {i : Nat} {q q' : Nat → Bool} {p : Nat} (h : q p = q' p) : midE c i q p = midE c i q' p := by unfold midE; rw [h]
theorem midE_up {c : Nat → Nat} {i at_ : Nat} {q q' : Nat → Bool} (hq : ∀ p, q' p = (q p || decide (p = at_))) (h : midE c i q at_ = i) (p : Nat) : (if p = at_ then i + 1 else midE c i q p) = midE c i q' p := by
  unfold midE at h ⊢
  rw [hq]
  by_cases e : p = at_
  · subst e
    rw [if_pos rfl, decide_eq_true rfl, Bool.or_true]
    by_cases h1 : c p = i
    · rw [if_pos ⟨h1, rfl⟩]
    · rw [if_neg (fun h => h1 h.1)] at h
      exact absurd h h1
  · rw [if_neg e, decide_eq_false e, Bool.or_false]
theorem midE_stay {c : Nat → Nat} {i at_ : Nat} {q q' : Nat → Bool} (hq : ∀ p, q' p = (q p || decide (p = at_))) (h : ¬ midE c i q at_ = i) (p : Nat) : midE c i q p = midE c i q' p := by
  unfold midE at h ⊢
  rw [hq]
  by_cases e : p = at_
  · subst e
    rw [decide_eq_true rfl, Bool.or_true]
    by_cases h1 : c p = i
    · cases h2 : q p with
      | true => rfl
      | false => rw [h2, if_neg (by simp)] at h; exact absurd h1 h
    · rw [if_neg (fun h => h1 h.1), if_neg (fun h => h1 h.1)]
  · rw [decide_eq_false e, Bool.or_false]
def HadAt (w : World) (hb n : Nat) (h : Nat → Nat) : Prop := Bl w hb 3 (ints ((List.range n).map h)).toArray
theorem had_list (n : Nat) (h : Nat → Nat) (p : Nat) (hp : p < n) : (ints ((List.range n).map h)).toArray[p]? = some (.int .i64 (h p : Int)) := by
  rw [List.getElem?_toArray, ints_get _ _ (by simpa using hp)]
  simp
theorem HadAt.cell {w : World} {hb n : Nat} {h : Nat → Nat} (k : HadAt w hb n h) (p : Nat) (hp : p < n) : w.cell? ⟨hb, p, none⟩ = some (.int .i64 (h p : Int)) := (Bl.cell k p).trans (had_list n h p hp)
theorem HadAt.congr {w : World} {hb n : Nat} {h h' : Nat → Nat} (k : HadAt w hb n h) (e : ∀ p, p < n → h p = h' p) : HadAt w hb n h' := by
  unfold HadAt at k ⊢
  rwa [show (List.range n).map h' = (List.range n).map h from List.map_congr_left fun p hp => (e p (List.mem_range.1 hp)).symm]
theorem HadAt.set {w : World} {hb n : Nat} {h : Nat → Nat} (k : HadAt w hb n h) (p : Nat) (hp : p < n) (v : Nat) : HadAt (w.setCell ⟨hb, p, none⟩ (.int .i64 (v : Int))) hb n (fun q => if q = p then v else h q) := by
  have := Bl.set12 k p (.int .i64 (v : Int))
  unfold HadAt
  rw [show (ints ((List.range n).map fun q => if q = p then v else h q)).toArray = (ints ((List.range n).map h)).toArray.setIfInBounds p (.int .i64 (v : Int)) from ?_]
  · exact this
  · rw [List.setIfInBounds_toArray]
    congr 1
    refine List.ext_getElem? fun j => ?_
    rw [List.getElem?_set]
    simp only [ints, List.getElem?_map, List.length_map, List.length_range]
    by_cases hj : j < n
    · rw [List.getElem?_range hj]
      by_cases e : p = j
      · subst e; rw [if_pos rfl, if_pos hj]; simp
      · rw [if_neg e]; simp [Ne.symm e]
    · rw [List.getElem?_eq_none (by simpa using hj)]
      by_cases e : p = j
      · subst e; rw [if_pos rfl, if_neg hj]; rfl
      · rw [if_neg e]; rfl
theorem posF_has {es : List Ent} {s : ByteArray} {p : Nat} (hp : p < es.length) (r : List ByteArray) : ((es[p]?).any (fun e => r.any (H3.hasB e.line)) || decide (p ∈ posF es s)) = (es[p]?).any fun e => (r ++ [s]).any (H3.hasB e.line) := by
  rw [List.getElem?_eq_getElem hp]
  simp only [Option.any_some, List.any_append, List.any_cons, List.any_nil, Bool.or_false]
  congr 1
  rw [Bool.eq_iff_iff, decide_eq_true_eq, mem_posF]
  exact ⟨fun ⟨_, h⟩ => h, fun h => ⟨hp, h⟩⟩
theorem take_mem {l : List Nat} {k : Nat} (h : k < l.length) (p : Nat) : decide (p ∈ l.take (k + 1)) = (decide (p ∈ l.take k) || decide (p = l[k])) := by
  have e : (p ∈ l.take (k + 1)) ↔ (p ∈ l.take k ∨ p = l[k]) := by rw [← List.take_append_getElem h, List.mem_append, List.mem_singleton]
  rw [Bool.eq_iff_iff]
  simp only [Bool.or_eq_true, decide_eq_true_eq]
  exact e
theorem satE_nil (es : List Ent) (p : Nat) : satE es p [] = false := by
  unfold satE
  cases es[p]? <;> rfl
set_option maxHeartbeats 8000000 in
set_option maxRecDepth 100000 in
theorem rowsHad_any {w : World} {B gb : Nat} {es : List Ent} {av : Value} {rows : List (List ByteArray)} (h : EngAt3 w B gb es) (hr : TextsAt w av rows) (hw : ∀ l ∈ rows, ∀ s ∈ l, s.size ≤ 100000) (hn : es.length ≤ 1000) :
    Calls Tryz.prog 93 #[.pointer (some ⟨gb, 0, none⟩), av] w fun x w' => x = .returned (.slice (some ⟨w.heap.size, 0, none⟩) es.length es.length) ∧ HadAt w' w.heap.size es.length (cntE es rows) ∧ Lay w w' := by
  obtain ⟨κ, kb, pb, m, n, v, R, hE, hR, _, _⟩ := id h
  obtain ⟨ev, cv, rfl⟩ := hE.e.shape
  have hRn : R.length = es.length := by rw [← hR, List.length_map]
  obtain ⟨a, c, rfl, h63, hc⟩ := id hr
  obtain ⟨f, hp1, hp2, _⟩ := hE.p
  obtain ⟨iI, hI1, hI2, hI3, hI4⟩ := info_parts infoI
  obtain ⟨W1, hW1⟩ : ∃ W1, W1 = w.alloc (.cells (madeCells #[.int .i64 0] es.length) 3) := ⟨_, rfl⟩
  have hmk : (Instr.makeSlice 22 (.int .i64 (es.length : Int)) (.int .i64 (es.length : Int))).run Tryz.prog w = .ok (.slice (some ⟨w.heap.size, 0, none⟩) es.length es.length) W1 := by
    have := run_makeSlice (P := Tryz.prog) w 22 3 iI (.int .i64 0) Tryz.underlying22 hI1 hI2 .i64 .i64 (es.length : Int) (es.length : Int) (by omega) (by omega) (by rw [hI3]; omega) (by rw [hI4]; omega) (by omega)
    rw [this, hI3, hW1]
    simp [Value.cells]
  have hl1 : Lay w W1 := by rw [hW1]; exact (Keep.refl _ _).alloc _
  have hh1 : HadAt W1 w.heap.size es.length (cntE es []) := by
    unfold HadAt
    rw [hW1, show (ints ((List.range es.length).map (cntE es []))).toArray = madeCells #[.int .i64 0] es.length from ?_]
    · exact Bl.new w 3 _
    · rw [← Array.toList_inj, toList_madeCells_one, show (List.range es.length).map (cntE es []) = List.replicate es.length 0 from by rw [show cntE es [] = fun _ => 0 from funext fun p => rfl]; simp [List.map_const'], List.toList_toArray]
      simp [ints]
  have c0 := hE.c.cell 0
  have c1 := hE.c.cell 1
  have c2 := hE.c.cell 2
  simp only [List.getElem?_toArray, List.getElem?_cons_succ, List.getElem?_cons_zero] at c0 c1 c2
  rw [hRn] at c0
  have HCE : Hid (Bl w gb 96 #[.slice ev es.length cv, .map (some kb), .map (some pb)]) := Lib.hid (by have := hE.c; rwa [hRn] at this)
  have HC := Lib.hid hc
  have HM := Lib.hid hp1
  have HP := Lib.hid (fun s => by have := hp2 s; rwa [hR] at this)
  have HL1 := Lib.hid hl1
  have HH1 := Lib.hid hh1
  have HWS := Lib.hid hw
  have hgl := hE.c.lt
  clear hE hR hRn hc hp1 hp2 hl1 hh1 hw hr h hI1 hI2 hI3 hI4 hW1
  go_enter Tryz.func93, Tryz.ntmps93
  go_wp2_with fail
  clear c0 c1 c2 hmk
  go_loopw [20] (fun vi wr => ∃ i : Nat, vi = .int .i64 i ∧ i ≤ rows.length ∧ HadAt wr w.heap.size es.length (cntE es (rows.take i)) ∧ Keep (fun b => b = w.heap.size) W1 wr) (fun vi _ => rows.length - (intOf vi).toNat)
  case atStart => exact ⟨0, rfl, Nat.zero_le _, HH1.out, Keep.refl _ _⟩
  case round =>
    obtain ⟨i, rfl, hi, hh, hk⟩ := hrel
    have HHd := Lib.hid hh
    have HKK := Lib.hid hk
    clear hh
    by_cases hlt : i < rows.length
    · rcases HC.out with h0 | ⟨br, orr, rfl, hbr, hcr⟩
      · exact absurd hlt (by rw [h0]; simp)
      obtain ⟨rv, x0, x1⟩ := hcr i hlt
      have hold : ∀ b, b < w.heap.size → wr.heap[b]? = w.heap[b]? := fun b hb => (hk.block b (Nat.lt_of_lt_of_le hb HL1.out.size) (by omega)).trans (Lay.block HL1.out hb)
      have y0 : wr.cell? ⟨br, orr + i, none⟩ = some rv := (World.cell?_of_block (a := ⟨br, orr + i, none⟩) (hold br hbr)).trans x0
      have hct := fun p => cntE_take (es := es) hlt p
      have hws := HWS.out _ (List.getElem_mem hlt)
      generalize rows[i] = r at x1 hct hws
      obtain ⟨ar, cr, rfl, hr63, hrc⟩ := id x1
      have HRC := Lib.hid hrc
      have HCT := Lib.hid hct
      have HWR := Lib.hid hws
      clear x0 x1 hct hws hrc hold hk hcr
      go_wp2_with fail
      go_loopw [27] (fun vj wq => ∃ j : Nat, vj = .int .i64 j ∧ j ≤ r.length ∧ HadAt wq w.heap.size es.length (midE (cntE es (rows.take i)) i (fun p => satE es p (r.take j))) ∧ Keep (fun b => b = w.heap.size) W1 wq) (fun vj _ => r.length - (intOf vj).toNat)
      case atStart => exact ⟨0, rfl, Nat.zero_le _, HHd.out.congr (fun p _ => by rw [List.take_zero]; exact ((midE_congr (q' := fun _ => false) (satE_nil es p)).trans (midE_none _ _ _)).symm), HKK.out⟩
      case round =>
        obtain ⟨j, rfl, hj, hhj, hkj⟩ := hrel
        have HHJ := Lib.hid hhj
        have HKJ := Lib.hid hkj
        clear hhj
        by_cases hjl : j < r.length
        · rcases HRC.out with h0 | ⟨bl, ol, rfl, hbl, hcl⟩
          · exact absurd hjl (by rw [h0]; simp)
          have hold : ∀ b, b < w.heap.size → wr.heap[b]? = w.heap[b]? := fun b hb => (hkj.block b (Nat.lt_of_lt_of_le hb HL1.out.size) (by omega)).trans (Lay.block HL1.out hb)
          have z0 : wr.cell? ⟨bl, ol + j, none⟩ = some (.string r[j]) := (World.cell?_of_block (a := ⟨bl, ol + j, none⟩) (hold bl hbl)).trans (hcl j hjl)
          have hss := HWR.out _ (List.getElem_mem hjl)
          have htk : r.take (j + 1) = r.take j ++ [r[j]] := (List.take_append_getElem hjl).symm
          generalize r[j] = s at z0 hss htk
          have hsm : s.size ≤ maxLen := by unfold maxLen; omega
          have hlk : (Instr.lookup 94 (.map (some pb)) (.string s) false).run Tryz.prog wr = .ok (atK f s) wr := (HM.out.carry (hold pb HM.out.lt)).look Tryz.underlying9 Tryz.underlying94 (by kernel_rfl) hsm
          obtain ⟨pa, pc, hpv, hpc⟩ : ∃ pa pc, atK f s = .slice pa (posF es s).length pc ∧ ∀ k (hk : k < (posF es s).length), ∃ q, pa = some ⟨q, 0, none⟩ ∧ q < w.heap.size ∧ w.cell? ⟨q, k, none⟩ = some (.int .i64 ((posF es s)[k] : Int)) := by
            obtain ⟨_, ⟨h1, h2⟩ | ⟨q, cap, h1, _, h2, _, _, h3, _⟩⟩ := HP.out s
            · exact ⟨none, 0, by rw [h1, h2], fun k hk => by omega⟩
            · exact ⟨_, cap, h1, fun k hk => ⟨q, rfl, h2, (h3 k (by rw [ints_len]; exact hk)).trans (ints_get _ _ _)⟩⟩
          rw [hpv] at hlk
          have hge := hold gb hgl
          have e2 : wr.cell? ⟨gb, 2, none⟩ = some (.map (some pb)) := (World.cell?_of_block (a := ⟨gb, 2, none⟩) hge).trans (HCE.out.cell 2)
          have HPC := Lib.hid hpc
          have HTK := Lib.hid htk
          have HPL : Hid ((posF es s).length ≤ 1000) := Lib.hid (Nat.le_trans (posF_len es s) hn)
          clear hpc htk hsm hss hpv hold hkj hge hcl
          go_wp2_with fail
          clear hlk z0 e2
          go_loopw [38] (fun vk wq => ∃ k : Nat, vk = .int .i64 k ∧ k ≤ (posF es s).length ∧ HadAt wq w.heap.size es.length (midE (cntE es (rows.take i)) i (fun p => satE es p (r.take j) || decide (p ∈ (posF es s).take k))) ∧ Keep (fun b => b = w.heap.size) W1 wq) (fun vk _ => (posF es s).length - (intOf vk).toNat)
          case atStart => exact ⟨0, rfl, Nat.zero_le _, HHJ.out.congr (fun p _ => midE_congr (by simp)), HKJ.out⟩
          case round =>
            obtain ⟨k, rfl, hk, hhk, hkk⟩ := hrel
            have HKK2 := Lib.hid hkk
            have hpl := HPL.out
            by_cases hkl : k < (posF es s).length
            · obtain ⟨q, rfl, hq, hcq⟩ := HPC.out k hkl
              have z1 : wr.cell? ⟨q, k, none⟩ = some (.int .i64 ((posF es s)[k] : Int)) := (World.cell?_of_block (a := ⟨q, k, none⟩) ((hkk.block q (Nat.lt_of_lt_of_le hq HL1.out.size) (by omega)).trans (Lay.block HL1.out hq))).trans hcq
              have hat : (posF es s)[k] < es.length := (mem_posF.1 (List.getElem_mem hkl)).1
              have hmem := take_mem hkl
              generalize (posF es s)[k] = at_ at z1 hat hmem
              have z2 := hhk.cell at_ hat
              have z3 := Bl.frozen hhk at_
              have hup := midE_up (c := cntE es (rows.take i)) (i := i) (at_ := at_) (q := fun p => satE es p (r.take j) || decide (p ∈ (posF es s).take k)) (q' := fun p => satE es p (r.take j) || decide (p ∈ (posF es s).take (k + 1))) (fun p => by rw [hmem, Bool.or_assoc])
              have hst := midE_stay (c := cntE es (rows.take i)) (i := i) (at_ := at_) (q := fun p => satE es p (r.take j) || decide (p ∈ (posF es s).take k)) (q' := fun p => satE es p (r.take j) || decide (p ∈ (posF es s).take (k + 1))) (fun p => by rw [hmem, Bool.or_assoc])
              have d1 : ¬ (at_ : Int) < 0 := by omega
              have d2 : (at_ : Int) < (es.length : Int) := by omega
              by_cases hq1 : midE (cntE es (rows.take i)) i (fun p => satE es p (r.take j) || decide (p ∈ (posF es s).take k)) at_ = i
              · have hset := hhk.set at_ hat (i + 1)
                have HN : Hid (HadAt (wr.setCell ⟨w.heap.size, at_, none⟩ (.int .i64 ((i + 1 : Nat) : Int))) w.heap.size es.length (midE (cntE es (rows.take i)) i (fun p => satE es p (r.take j) || decide (p ∈ (posF es s).take (k + 1)))) ∧ Keep (fun b => b = w.heap.size) W1 (wr.setCell ⟨w.heap.size, at_, none⟩ (.int .i64 ((i + 1 : Nat) : Int)))) := Lib.hid ⟨hset.congr fun p _ => hup hq1 p, keep_set12 hkk _ _⟩
                rw [hq1] at z2
                clear hset hup hst hq1 hhk hkk hmem hcq
                go_wp2_with fail
                go_roundw
                case rel => exact ⟨k + 1, by go_num, hkl, HN.out.1, HN.out.2⟩
                case measure => simp [intOf]; omega
              · have HN : Hid (HadAt wr w.heap.size es.length (midE (cntE es (rows.take i)) i (fun p => satE es p (r.take j) || decide (p ∈ (posF es s).take (k + 1)))) ∧ Keep (fun b => b = w.heap.size) W1 wr) := Lib.hid ⟨hhk.congr fun p _ => hst hq1 p, hkk⟩
                have hne : ¬ (midE (cntE es (rows.take i)) i (fun p => satE es p (r.take j) || decide (p ∈ (posF es s).take k)) at_ : Int) = (i : Int) := by omega
                generalize midE (cntE es (rows.take i)) i (fun p => satE es p (r.take j) || decide (p ∈ (posF es s).take k)) at_ = mv at z2 hne
                have hnb : ((mv : Int) == (i : Int)) = false := by simpa using hne
                clear hup hst hq1 hhk hkk hmem hcq hne
                go_wp2_with fail
                go_roundw
                case rel => exact ⟨k + 1, by go_num, by omega, HN.out.1, HN.out.2⟩
                case measure => simp [intOf]; omega
            · obtain rfl : k = (posF es s).length := by omega
              have HN : Hid (HadAt wr w.heap.size es.length (midE (cntE es (rows.take i)) i (fun p => satE es p (r.take (j + 1))))) := Lib.hid (hhk.congr fun p hp => midE_congr (by rw [List.take_of_length_le (Nat.le_refl _), HTK.out]; exact posF_has hp (r.take j)))
              clear hhk hkk
              go_wp2_with fail
              go_roundw
              case rel => exact ⟨j + 1, by go_num, by omega, HN.out, HKK2.out⟩
              case measure => simp [intOf]; omega
        · obtain rfl : j = r.length := by omega
          have HN : Hid (HadAt wr w.heap.size es.length (cntE es (rows.take (i + 1)))) := Lib.hid (HHJ.out.congr fun p _ => by rw [List.take_of_length_le (Nat.le_refl _)]; exact (HCT.out p).symm)
          clear hkj
          go_wp2_with fail
          go_roundw
          case rel => exact ⟨i + 1, by go_num, by omega, HN.out, HKJ.out⟩
          case measure => simp [intOf]; omega
    · obtain rfl : i = rows.length := by omega
      have HEND : Hid (HadAt wr w.heap.size es.length (cntE es rows) ∧ Lay w wr) := Lib.hid ⟨by have := HHd.out; rwa [List.take_of_length_le (Nat.le_refl _)] at this, Keep.into (Keep.trans (HL1.out.into (H := fun b => w.heap.size ≤ b) fun _ _ h => h.elim) (hk.into fun b _ hb => Nat.le_of_eq hb.symm)) fun b hlt hb => by omega⟩
      clear hk
      go_wp2_with fail
      go_ret
      exact ⟨rfl, HEND.out⟩
end Go.Proofs.YtoobjjpheegmdaaGreat.E4
namespace Go.Proofs.YtoobjjpheegmdaaGreat.E4
open Go.RowKit Go
open Go.Sort (grow)
def asksE (src til : Int) (rows : List (List ByteArray)) (e : Ent) : Bool := decide (src ≤ e.tm) && decide (e.tm ≤ til) && rows.all fun r => r.any (H3.hasB e.line)
set_option maxHeartbeats 8000000 in
set_option maxRecDepth 100000 in
theorem found3_any {w : World} {B gb : Nat} {es : List Ent} {av : Value} {src til : Int} {rows : List (List ByteArray)} (h : EngAt3 w B gb es) (hr : TextsAt w av rows) (hw : ∀ l ∈ rows, ∀ s ∈ l, s.size ≤ 100000) (hn : es.length ≤ 1000) :
    Calls Tryz.prog 78 #[.pointer (some ⟨gb, 0, none⟩), .agg #[.int .i64 src, .int .i64 til, av]] w fun x w' => ∃ v', x = .returned v' ∧ EntsAt (fun b => w.heap.size ≤ b) (fun b => b < w.heap.size) w' v' (es.filter (asksE src til rows)) ∧ Below w.heap.size w w' := by
  have hmx : Tryz.prog.follows .mixedOrders = true := by kernel_rfl
  obtain ⟨i24, z24, E24⟩ := elem24
  obtain ⟨κ, kb, pb, m, n, v, R, hE, hR, _, _⟩ := id h
  obtain ⟨ev, cv, rfl⟩ := hE.e.shape
  have hRn : R.length = es.length := by rw [← hR, List.length_map]
  obtain ⟨a, c, rfl, h63, _⟩ := id hr
  obtain ⟨w1, hw1⟩ : ∃ w1, w1 = w.alloc (.cells #[.int .i64 src, .int .i64 til, .slice a rows.length c] 63) := ⟨_, rfl⟩
  have hb1 : Below w.heap.size w w1 := by rw [hw1]; exact (Below.refl _ w).alloc (Nat.le_refl _) _
  have hk1 : Bl w1 w.heap.size 63 #[.int .i64 src, .int .i64 til, .slice a rows.length c] := by rw [hw1]; exact Bl.new w 63 _
  have HRH := Lib.hid (rowsHad_any (h.below hb1) (hr.below hb1) hw hn)
  have c0 := hk1.cell 0
  have c1 := hk1.cell 1
  have c2 := hk1.cell 2
  simp only [List.getElem?_toArray, List.getElem?_cons_succ, List.getElem?_cons_zero] at c0 c1 c2
  have HW1 := Lib.hid hw1.symm
  have HB1 := Lib.hid hb1
  have HK1 := Lib.hid hk1
  have HG : Hid (Bl w gb 96 #[.slice ev es.length cv, .map (some kb), .map (some pb)]) := Lib.hid (by have := hE.c; rwa [hRn] at this)
  have HEN : Hid (∀ i (h : i < es.length), ∃ g al cl, ev = some ⟨g, 0, none⟩ ∧ g < w.heap.size ∧ w.cell? ⟨g, i * 3, none⟩ = some (.int .i64 es[i].tm) ∧ w.cell? ⟨g, i * 3 + 1, none⟩ = some (.slice al es[i].labs.length cl) ∧ w.cell? ⟨g, i * 3 + 2, none⟩ = some (.string es[i].line) ∧ LabsAt (fun b => b < w.heap.size) w (.slice al es[i].labs.length cl) es[i].labs) := Lib.hid fun i hi => by
    have hi' : i < R.length := by rw [hRn]; exact hi
    have he : es[i] = R[i].2 := by subst hR; simp
    have hl := hE.l _ (List.getElem_mem hi')
    obtain ⟨_, ⟨h1, h2⟩ | ⟨g, cap, h1, _, h2, _, _, h3, _⟩⟩ := hE.e
    · omega
    · simp only [Value.slice.injEq] at h1
      obtain ⟨rfl, _, rfl⟩ := h1
      have hfl := flatR_length R
      obtain ⟨al, cl, hv, _⟩ := id hl
      refine ⟨g, al, cl, rfl, h2, ?_, ?_, ?_, ?_⟩
      · rw [h3 _ (by omega), show i * 3 = i * 3 + 0 from rfl, flatR_get R i hi' 0 (by omega), he]; rfl
      · rw [h3 _ (by omega), flatR_get R i hi' 1 (by omega), he, ← hv]; rfl
      · rw [h3 _ (by omega), flatR_get R i hi' 2 (by omega), he]; rfl
      · rw [he, ← hv]; exact hl.mono fun b _ hlt => hlt
  clear hE hR hRn hb1 hk1 hw1 h hr
  go_enter Tryz.func78, Tryz.ntmps78
  go_upto_region 1 with fail
  rw [HW1.out]
  go_wp2_with fail
  refine HRH.out.mono ?_
  rintro x w2 ⟨rfl, hh2, hl2⟩
  have hs1 : w.heap.size ≤ w1.heap.size := HB1.out.size
  have HH2 := Lib.hid hh2
  have HB2 := Lib.hid (below_mid HB1.out (lay_below hl2))
  have HK2 := Lib.hid (HK1.out.below (lay_below hl2))
  have HS1 : Hid (w.heap.size < w1.heap.size) := Lib.hid HK1.out.lt
  clear hh2 hl2 HRH c0 c1 c2 hs1
  go_wp2_with fail
  go_loopw [14, 5] (fun vi vb wr => ∃ (i : Nat) (S : List (Value × Ent)), vi = .int .i64 i ∧ i ≤ es.length ∧ Rk 3 (fun b => w2.heap.size ≤ b) wr vb S.length (flatR S) ∧ RawL (fun b => b < w.heap.size) wr S ∧ S.map Prod.snd = (es.take i).filter (asksE src til rows) ∧ Below w2.heap.size w2 wr) (fun vi _ _ => es.length - (intOf vi).toNat)
  case atStart => exact ⟨0, [], rfl, Nat.zero_le _, Rk.nil 3 _ _, fun x hx => by simp at hx, by simp, Below.refl _ _⟩
  case round =>
    obtain ⟨i, S, rfl, hi, hsk, hsl, hS, hb⟩ := hrel
    have HSK := Lib.hid hsk
    have HSL := Lib.hid hsl
    have HSS := Lib.hid hS
    have HB := Lib.hid hb
    have HSn : Hid (S.length ≤ 1000) := Lib.hid (by
      have h1 := congrArg List.length hS
      have h2 := List.length_filter_le (asksE src til rows) (es.take i)
      rw [List.length_map] at h1
      rw [List.length_take] at h2
      omega)
    clear hsk hsl hS
    by_cases hlt : i < es.length
    · obtain ⟨g, al, cl, rfl, hgl, x0, x1, x2, x3⟩ := HEN.out i hlt
      have hbw := below_mid HB2.out hb
      have hft := filter_take (asksE src til rows) es i hlt
      have hca := cntE_all es rows i
      have hsat : satE es i = fun r => r.any (H3.hasB es[i].line) := by funext r; unfold satE; rw [List.getElem?_eq_getElem hlt]; rfl
      rw [hsat] at hca
      generalize es[i] = e at x0 x1 x2 x3 hft hca
      have y0 : wr.cell? ⟨g, i * 3, none⟩ = _ := (hbw.cell hgl).trans x0
      have y1 : wr.cell? ⟨g, i * 3 + 1, none⟩ = _ := (hbw.cell hgl).trans x1
      have y2 : wr.cell? ⟨g, i * 3 + 2, none⟩ = _ := (hbw.cell hgl).trans x2
      have hgw := HG.out.below hbw
      have g0 := hgw.cell 0
      have hkw := HK2.out.below hb
      have k0 := hkw.cell 0
      have k1 := hkw.cell 1
      have k2 := hkw.cell 2
      have hhw : HadAt wr w1.heap.size es.length (cntE es rows) := Bl.below HH2.out hb
      have t0 := hhw.cell i hlt
      simp only [List.getElem?_toArray, List.getElem?_cons_succ, List.getElem?_cons_zero] at g0 k0 k1 k2
      obtain ⟨w7, hw7⟩ : ∃ w7, w7 = wr.alloc (.cells #[.int .i64 e.tm, .slice al e.labs.length cl, .string e.line] 32) := ⟨_, rfl⟩
      have hb6 : Below wr.heap.size wr w7 := by rw [hw7]; exact (Below.refl _ wr).alloc (Nat.le_refl _) _
      have hlab : LabsAt (fun b => b < w.heap.size) w7 (.slice al e.labs.length cl) e.labs := (x3.below1 hbw).below1 hb6
      have hne6 : Bl w7 wr.heap.size 32 #[.int .i64 e.tm, .slice al e.labs.length cl, .string e.line] := by rw [hw7]; exact Bl.new wr 32 _
      have hk6 := hkw.below hb6
      have HB6 := Lib.hid hb6
      have HLAB := Lib.hid hlab
      have HFT := Lib.hid hft
      generalize cntE es rows i = cn at t0 hca
      have HW7 := Lib.hid hw7.symm
      have q0 := hk6.cell 0
      have q1 := hk6.cell 1
      have q2 := hk6.cell 2
      have z0 := hne6.cell 0
      have z1 := hne6.cell 1
      have z2 := hne6.cell 2
      simp only [List.getElem?_toArray, List.getElem?_cons_succ, List.getElem?_cons_zero] at q0 q1 q2 z0 z1 z2
      clear x0 x1 x2 x3 hbw hgw hkw hhw hb6 hlab hft hsat hb hk6 hne6 hw7
      go_upto_region 6 with fail
      rw [HW7.out]
      clear y0 y1 y2 g0 k0 k1 k2 t0
      by_cases hc1 : cn = rows.length
      · have d1 : ((cn : Int) == (rows.length : Int)) = true := by rw [hc1]; simp
        have hall := hca.1 hc1
        by_cases hs1 : src ≤ e.tm
        · by_cases hs2 : e.tm ≤ til
          · have hyes : asksE src til rows e = true := by unfold asksE; rw [decide_eq_true hs1, decide_eq_true hs2, hall]; rfl
            have HYES := Lib.hid hyes
            have hsrc := src_entN (e := e) (w := w7) (al := al) (cl := cl)
            have HSRC := Lib.hid hsrc
            have hsn := HSn.out
            have hw2r : w2.heap.size ≤ wr.heap.size := HB.out.size
            have HW2R := Lib.hid hw2r
            clear hsrc hyes hall hc1 hca hw2r
            go_wp2_with (at_builtin; refine wpList_append_rk E24 _ rfl _ _ 43 rfl (G := fun b => w2.heap.size ≤ b) rfl ((HSK.out.below1 HB6.out).alloc _) ?c1 (.slice (some ⟨w7.heap.size, 0, none⟩) 1 1) 1 (flatR [((.slice al e.labs.length cl : Value), e)]) rfl HSRC.out ?c3 ?c4 ?_)
            case c1 =>
              intro k hk
              have h1 := HW2R.out
              have h2 := HB6.out.size
              simp at hk
              omega
            case c3 => omega
            case c4 => omega
            intro v' w8 hrk8 hk8
            have hba : Below w7.heap.size w7 (w7.alloc (.cells #[.int .i64 e.tm, .slice al e.labs.length cl, .string e.line] 32)) := (Below.refl _ _).alloc (Nat.le_refl _) _
            have hb1a := below_mid (below_mid HB.out HB6.out) hba
            have hb8 : Below w2.heap.size w2 w8 := keep_below ((HSK.out.below1 HB6.out).alloc _) (fun b hb => hb) hb1a hk8
            have hb08 := below_mid HB2.out hb8
            have HRK8 : Hid (Rk 3 (fun b => w2.heap.size ≤ b) w8 v' (S ++ [((.slice al e.labs.length cl : Value), e)]).length (flatR (S ++ [((.slice al e.labs.length cl : Value), e)]))) := Lib.hid (by
              have := hrk8.mono (G' := fun b => w2.heap.size ≤ b) fun b hb _ => hb.1
              rw [flatR_append, List.length_append]
              exact this)
            have hs0 : w.heap.size ≤ w2.heap.size := HB2.out.size
            have hraw : RawL (fun b => b < w.heap.size) w8 (S ++ [((.slice al e.labs.length cl : Value), e)]) := fun z hz => by
              have hold : ∀ b, b < w.heap.size → ∀ u : World, Below w2.heap.size w2 u → w8.heap[b]? = u.heap[b]? := fun b hb u hu => (hb8.block b (Nat.lt_of_lt_of_le hb hs0)).trans (hu.block b (Nat.lt_of_lt_of_le hb hs0)).symm
              rcases List.mem_append.1 hz with hz | hz
              · exact (HSL.out z hz).carry (Nat.le_trans HB6.out.size (Nat.le_trans hba.size hk8.size)) fun b hb _ => hold b hb wr HB.out
              · obtain rfl := List.mem_singleton.1 hz
                exact HLAB.out.carry (Nat.le_trans hba.size hk8.size) fun b hb _ => hold b hb _ (below_mid HB.out HB6.out)
            have HRAW := Lib.hid hraw
            have HB8 := Lib.hid hb8
            clear hrk8 hk8 hba hb1a hb8 hraw hb08 hs0
            go_wp2
            go_roundw
            case rel => exact ⟨i + 1, S ++ [((.slice al e.labs.length cl : Value), e)], by go_num, by omega, HRK8.out, HRAW.out, by rw [List.map_append, HSS.out, HFT.out, HYES.out]; rfl, HB8.out⟩
            case measure => simp [intOf]; omega
          · have hno : asksE src til rows e = false := by unfold asksE; rw [decide_eq_false hs2, Bool.and_false, Bool.false_and]
            have HNO := Lib.hid hno
            clear hno hall hc1 hca
            go_wp2_with fail
            go_roundw
            case rel => exact ⟨i + 1, S, by go_num, by omega, HSK.out.below1 HB6.out, HSL.out.below1 HB6.out, by rw [HSS.out, HFT.out, HNO.out]; simp, below_mid HB.out HB6.out⟩
            case measure => simp [intOf]; omega
        · have hno : asksE src til rows e = false := by unfold asksE; rw [decide_eq_false hs1, Bool.false_and, Bool.false_and]
          have HNO := Lib.hid hno
          clear hno hall hc1 hca
          go_wp2_with fail
          go_roundw
          case rel => exact ⟨i + 1, S, by go_num, by omega, HSK.out.below1 HB6.out, HSL.out.below1 HB6.out, by rw [HSS.out, HFT.out, HNO.out]; simp, below_mid HB.out HB6.out⟩
          case measure => simp [intOf]; omega
      · have d1 : ((cn : Int) == (rows.length : Int)) = false := by
          have : ¬ (cn : Int) = (rows.length : Int) := by omega
          simpa using this
        have hno : asksE src til rows e = false := by unfold asksE; rw [Bool.eq_false_iff.2 (fun h => hc1 (hca.2 h)), Bool.and_false]
        have HNO := Lib.hid hno
        clear hno hc1 hca
        go_wp2_with fail
        go_roundw
        case rel => exact ⟨i + 1, S, by go_num, by omega, HSK.out.below1 HB6.out, HSL.out.below1 HB6.out, by rw [HSS.out, HFT.out, HNO.out]; simp, below_mid HB.out HB6.out⟩
        case measure => simp [intOf]; omega
    · obtain rfl : i = es.length := by omega
      clear hb
      go_wp2_with fail
      go_ret
      have hR' := HSS.out
      rw [List.take_of_length_le (Nat.le_refl _)] at hR'
      have hents := HSK.out.ents HSL.out
      rw [hR'] at hents
      exact ⟨_, rfl, hents.mono (fun b hb _ => Nat.le_trans HB2.out.size hb) (fun b hb _ => hb), below_mid HB2.out HB.out⟩
end Go.Proofs.YtoobjjpheegmdaaGreat.E4
namespace Go.Proofs.YtoobjjpheegmdaaGreat.E4
open Go.RowKit Go
set_option maxHeartbeats 2000000 in
set_option maxRecDepth 100000 in
theorem index_strs (g : Nat) (lb : Array Value) (eg : ∀ args w, (callFunc g args).run Tryz.prog w = .ok (.enter g args) w) (p : ByteArray → Bool) (k : List (ByteArray)) (a : Option Addr) (c : Nat) (w : World) (hks : StrsAt w (.slice a k.length c) k)
    (hp : ∀ (W : World) (x : ByteArray), Below w.heap.size w W → Calls Tryz.prog g (#[.string x] ++ lb) W fun e w' => e = .returned (.bool (p x)) ∧ Below W.heap.size W w') :
    Calls Tryz.prog 114 #[.slice a k.length c, .func (.func g) #[] lb] w fun e w' => ∃ r : Int, e = .returned (.int .i64 r) ∧ (0 ≤ r ↔ k.any p = true) ∧ Below w.heap.size w w' := by
  obtain ⟨a', cap, he, hl63, hks⟩ := hks
  obtain ⟨rfl, rfl⟩ : a' = a ∧ cap = c := by simpa [eq_comm] using he
  have HK := Lib.hid hks
  have HP := Lib.hid hp
  clear hks hp he
  go_enter Tryz.func114, Tryz.ntmps114
  go_wp2_with fail
  go_loopw [5, 8] (fun _ vi wr => ∃ i : Nat, vi = .int .i64 i ∧ i ≤ k.length ∧ (k.take i).any p = false ∧ Below w.heap.size w wr) (fun _ vi _ => k.length - (intOf vi).toNat)
  case atStart => exact ⟨0, rfl, Nat.zero_le _, rfl, Below.refl _ w⟩
  case round =>
    obtain ⟨i, rfl, hi, hn, hb⟩ := hrel
    have HB := Lib.hid hb
    have HN := Lib.hid hn
    clear hn
    by_cases hlt : i < k.length
    · rcases HK.out with h0 | ⟨b, off, rfl, hbl, hka⟩
      · exact absurd hlt (by rw [h0]; simp)
      have x0 := (hb.cell (p := ⟨b, off + i, none⟩) hbl).trans (hka i hlt)
      have HT : Hid ((k.take (i + 1)).any p = ((k.take i).any p || p k[i])) := Lib.hid (by rw [List.take_succ_eq_append_getElem hlt, List.any_append, List.any_cons, List.any_nil, Bool.or_false])
      have HM : Hid (p k[i] = true → k.any p = true) := Lib.hid fun h => List.any_eq_true.2 ⟨_, List.getElem_mem hlt, h⟩
      generalize k[i] = x at x0 HT HM
      have HC := Lib.hid (HP.out wr x HB.out)
      clear hka hb
      cases hpx : p x with
      | true =>
        rw [hpx] at HC HM
        have HM2 := Lib.hid (HM.out rfl)
        clear HM hpx
        go_wp2_with (go_at_fn g; refine HC.out.mono ?_; rintro e w' ⟨rfl, hb'⟩)
        go_ret
        exact ⟨_, rfl, ⟨fun _ => HM2.out, fun _ => by omega⟩, HB.out.trans (hb'.mono HB.out.size)⟩
      | false =>
        rw [hpx] at HC HT
        clear hpx
        go_wp2_with (go_at_fn g; refine HC.out.mono ?_; rintro e w' ⟨rfl, hb'⟩)
        go_roundw
        case rel => exact ⟨i + 1, by go_num, by omega, by rw [HT.out, HN.out]; rfl, HB.out.trans (hb'.mono HB.out.size)⟩
        case measure => simp [intOf]; omega
    · obtain rfl : i = k.length := by omega
      have hn := HN.out
      rw [List.take_length] at hn
      have HE := Lib.hid hn
      clear hb hn
      go_wp2_with fail
      go_ret
      exact ⟨_, rfl, by rw [HE.out]; simp, HB.out⟩
set_option maxHeartbeats 2000000 in
theorem contains_strs (g : Nat) (lb : Array Value) (eg : ∀ args w, (callFunc g args).run Tryz.prog w = .ok (.enter g args) w) (p : ByteArray → Bool) (k : List (ByteArray)) (a : Option Addr) (c : Nat) (w : World) (hks : StrsAt w (.slice a k.length c) k)
    (hp : ∀ (W : World) (x : ByteArray), Below w.heap.size w W → Calls Tryz.prog g (#[.string x] ++ lb) W fun e w' => e = .returned (.bool (p x)) ∧ Below W.heap.size W w') :
    Calls Tryz.prog 102 #[.slice a k.length c, .func (.func g) #[] lb] w fun e w' => e = .returned (.bool (k.any p)) ∧ Below w.heap.size w w' := by
  have HI := Lib.hid (index_strs g lb eg p k a c w hks hp)
  clear hks hp
  generalize k.any p = b at HI ⊢
  go_enter Tryz.func102, Tryz.ntmps102
  go_wp2_with (go_at_call 114; refine HI.out.mono ?_; rintro e w' ⟨r, rfl, hr, hb'⟩)
  go_ret
  refine ⟨?_, hb'⟩
  congr 2
set_option maxHeartbeats 2000000 in
set_option maxRecDepth 100000 in
theorem index_rows (g : Nat) (lb : Array Value) (eg : ∀ args w, (callFunc g args).run Tryz.prog w = .ok (.enter g args) w) (p : List ByteArray → Bool) (k : List (List ByteArray)) (a : Option Addr) (c : Nat) (w : World) (hks : TextsAt w (.slice a k.length c) k)
    (hp : ∀ (W : World) (x : List ByteArray) (rv : Value), Below w.heap.size w W → StrsAt W rv x → Calls Tryz.prog g (#[rv] ++ lb) W fun e w' => e = .returned (.bool (p x)) ∧ Below W.heap.size W w') :
    Calls Tryz.prog 115 #[.slice a k.length c, .func (.func g) #[] lb] w fun e w' => ∃ r : Int, e = .returned (.int .i64 r) ∧ (0 ≤ r ↔ k.any p = true) ∧ Below w.heap.size w w' := by
  obtain ⟨a', cap, he, hl63, hks⟩ := hks
  obtain ⟨rfl, rfl⟩ : a' = a ∧ cap = c := by simpa [eq_comm] using he
  have HK := Lib.hid hks
  have HP := Lib.hid hp
  clear hks hp he
  go_enter Tryz.func115, Tryz.ntmps115
  go_wp2_with fail
  go_loopw [5, 8] (fun _ vi wr => ∃ i : Nat, vi = .int .i64 i ∧ i ≤ k.length ∧ (k.take i).any p = false ∧ Below w.heap.size w wr) (fun _ vi _ => k.length - (intOf vi).toNat)
  case atStart => exact ⟨0, rfl, Nat.zero_le _, rfl, Below.refl _ w⟩
  case round =>
    obtain ⟨i, rfl, hi, hn, hb⟩ := hrel
    have HB := Lib.hid hb
    have HN := Lib.hid hn
    clear hn
    by_cases hlt : i < k.length
    · rcases HK.out with h0 | ⟨b, off, rfl, hbl, hka⟩
      · exact absurd hlt (by rw [h0]; simp)
      obtain ⟨rv, y0, y1⟩ := hka i hlt
      have x0 := (hb.cell (p := ⟨b, off + i, none⟩) hbl).trans y0
      have y2 := y1.below hb
      have HT : Hid ((k.take (i + 1)).any p = ((k.take i).any p || p k[i])) := Lib.hid (by rw [List.take_succ_eq_append_getElem hlt, List.any_append, List.any_cons, List.any_nil, Bool.or_false])
      have HM : Hid (p k[i] = true → k.any p = true) := Lib.hid fun h => List.any_eq_true.2 ⟨_, List.getElem_mem hlt, h⟩
      generalize k[i] = x at y1 y2 HT HM
      have HC := Lib.hid (HP.out wr x rv HB.out y2)
      clear hka y0 y1 y2 hb
      cases hpx : p x with
      | true =>
        rw [hpx] at HC HM
        have HM2 := Lib.hid (HM.out rfl)
        clear HM hpx
        go_wp2_with (go_at_fn g; refine HC.out.mono ?_; rintro e w' ⟨rfl, hb'⟩)
        go_ret
        exact ⟨_, rfl, ⟨fun _ => HM2.out, fun _ => by omega⟩, HB.out.trans (hb'.mono HB.out.size)⟩
      | false =>
        rw [hpx] at HC HT
        clear hpx
        go_wp2_with (go_at_fn g; refine HC.out.mono ?_; rintro e w' ⟨rfl, hb'⟩)
        go_roundw
        case rel => exact ⟨i + 1, by go_num, by omega, by rw [HT.out, HN.out]; rfl, HB.out.trans (hb'.mono HB.out.size)⟩
        case measure => simp [intOf]; omega
    · obtain rfl : i = k.length := by omega
      have hn := HN.out
      rw [List.take_length] at hn
      have HE := Lib.hid hn
      clear hb hn
      go_wp2_with fail
      go_ret
      exact ⟨_, rfl, by rw [HE.out]; simp, HB.out⟩
set_option maxHeartbeats 2000000 in
theorem contains_rows (g : Nat) (lb : Array Value) (eg : ∀ args w, (callFunc g args).run Tryz.prog w = .ok (.enter g args) w) (p : List ByteArray → Bool) (k : List (List ByteArray)) (a : Option Addr) (c : Nat) (w : World) (hks : TextsAt w (.slice a k.length c) k)
    (hp : ∀ (W : World) (x : List ByteArray) (rv : Value), Below w.heap.size w W → StrsAt W rv x → Calls Tryz.prog g (#[rv] ++ lb) W fun e w' => e = .returned (.bool (p x)) ∧ Below W.heap.size W w') :
    Calls Tryz.prog 103 #[.slice a k.length c, .func (.func g) #[] lb] w fun e w' => e = .returned (.bool (k.any p)) ∧ Below w.heap.size w w' := by
  have HI := Lib.hid (index_rows g lb eg p k a c w hks hp)
  clear hks hp
  generalize k.any p = b at HI ⊢
  go_enter Tryz.func103, Tryz.ntmps103
  go_wp2_with (go_at_call 115; refine HI.out.mono ?_; rintro e w' ⟨r, rfl, hr, hb'⟩)
  go_ret
  refine ⟨?_, hb'⟩
  congr 2
end Go.Proofs.YtoobjjpheegmdaaGreat.E4
