/-
  Ad13.
-/
import Derived.Test.YtoobjjpheegmdaaGreatJ12
import Derived.Test.YtoobjjpheegmdaaGreatJ15
import Derived.Deep.RegionLaw
namespace Go.Proofs.YtoobjjpheegmdaaGreat.E4
open Go.RowKit Go
open Go.Sort (grow)
structure QS (W0 : World) (gb : Nat) (v mk mp : Value) (n : Nat) (R : List (Value × Ent)) (e : Ent) (listed : Array Bool) (ys : Nat → Value) (W : World) : Prop where
  k : Keep (fun q => q = gb ∨ At v q) W0 W
  a : listed.getD 8 false = false → Lay W0 W
  b : listed.getD 8 false = true → ∃ C lv', W0.heap.size ≤ C ∧ LabsAt (fun b => W0.heap.size ≤ b ∧ b < C) W lv' e.labs ∧ Rk 3 (fun q => At v q ∨ C ≤ q) W (ys 8) (n + 1) (flatR (R ++ [(lv', e)]))
  c : Bl W gb 96 (if listed.getD 11 false = true then #[ys 8, mk, mp] else #[v, mk, mp])
theorem QS.other {W0 W W' : World} {gb n : Nat} {v mk mp : Value} {R : List (Value × Ent)} {e : Ent} {listed : Array Bool} {ys : Nat → Value} (h : QS W0 gb v mk mp n R e listed ys W) (hl : Lay W W') {i : Nat} (h8 : i ≠ 8) (h11 : i ≠ 11) (u : Value) :
    QS W0 gb v mk mp n R e (listed.setIfInBounds i true) (H3.upd ys i u) W' := by
  have e8 : (listed.setIfInBounds i true).getD 8 false = listed.getD 8 false := getD_set_ne false h8
  have e11 : (listed.setIfInBounds i true).getD 11 false = listed.getD 11 false := getD_set_ne false h11
  have u8 : H3.upd ys i u 8 = ys 8 := H3.upd_other ys u (Ne.symm h8)
  refine ⟨Keep.trans h.k (hl.into fun _ _ h => h.elim), fun q => Keep.trans (h.a (e8 ▸ q)) hl, fun q => ?_, ?_⟩
  · rw [u8]
    obtain ⟨C, lv', h1, h2, h3⟩ := h.b (e8 ▸ q)
    exact ⟨C, lv', h1, h2.lay hl, h3.lay hl⟩
  · rw [u8, e11]; exact h.c.below (lay_below hl)
def QV (B0 : Nat) (e : Ent) (j : Nat) (v : Value) (w : World) : Prop :=
  if j = 6 then ∃ lv', v = e.val lv' ∧ LabsAt (fun b => B0 ≤ b) w lv' e.labs
  else ∃ C lv', v = .slice (some ⟨C, 0, none⟩) 1 1 ∧ B0 ≤ C ∧ Bl w C 32 #[.int .i64 e.tm, lv', .string e.line] ∧ LabsAt (fun b => B0 ≤ b ∧ b < C) w lv' e.labs
theorem QV.below {B0 : Nat} {e : Ent} {j : Nat} {v : Value} {w w' : World} (h : QV B0 e j v w) (hb : Below w.heap.size w w') : QV B0 e j v w' := by
  unfold QV at h ⊢
  split at h
  · rename_i hj
    rw [if_pos hj]
    obtain ⟨lv', h1, h2⟩ := h
    exact ⟨lv', h1, h2.below1 hb⟩
  · rename_i hj
    rw [if_neg hj]
    obtain ⟨C, lv', h1, h2, h3, h4⟩ := h
    exact ⟨C, lv', h1, h2, h3.below hb, h4.below1 hb⟩
theorem src_ent {C : Nat} {e : Ent} {lv : Value} {G : Nat → Prop} {w : World} (h : Bl w C 32 #[.int .i64 e.tm, lv, .string e.line]) (hl : LabsAt G w lv e.labs) : Src Tryz.prog 3 43 (.slice (some ⟨C, 0, none⟩) 1 1) 1 (flatR [(lv, e)]) w := by
  refine Src.ofSlice _ Tryz.underlying43 ⟨C, 0, none⟩ 1 1 (flatR [(lv, e)]) rfl (fun j u hu => ?_) (fun u hu => ?_)
  · rw [add_lit0, h.cell]
    simpa [flatR, rawC] using hu
  · obtain ⟨a, c, rfl, _⟩ := hl
    simp only [flatR, rawC, List.append_nil, List.mem_cons, List.not_mem_nil, or_false] at hu
    rcases hu with rfl | rfl | rfl <;> rfl
theorem add_end3 {κ : Nat → Nat} {w w5 w6 w9 : World} {B gb kb pb m n : Nat} {v v' : Value} {R : List (Value × Ent)} {e : Ent} {es : List Ent} (hE : EngC3 κ w B gb kb pb m n v R) (hR : R.map Prod.snd = es) (hmn : m ≤ es.length) (hnn : n ≤ 1000 * es.length) (_hB : B ≤ w.heap.size) (hline : e.line.size ≤ 1000)
    (hb5 : ∀ b, b < w.heap.size → b ≠ kb → w5.heap[b]? = w.heap[b]?) (hB5 : Below B w w5) (hm5 : MapAt Tryz.prog 9 w5 kb (m + 1) (knownF (R.map Prod.snd ++ [e])))
    (hp6 : PlAt (fun b => (B ≤ b ∧ κ b = 4 ∧ b < w.heap.size) ∨ w5.heap.size ≤ b) w6 pb (n + e.line.size) (posF (R.map Prod.snd ++ [e]))) (hk6 : H3.Keep (fun b => b = pb ∨ (B ≤ b ∧ κ b = 4 ∧ b < w.heap.size)) w5 w6)
    (hk9 : Keep (fun q => q = gb ∨ At v q) w6 w9) (hb9 : ∃ C lv', w6.heap.size ≤ C ∧ LabsAt (fun b => w6.heap.size ≤ b ∧ b < C) w9 lv' e.labs ∧ Rk 3 (fun q => At v q ∨ C ≤ q) w9 v' (R.length + 1) (flatR (R ++ [(lv', e)]))) (hc9 : Bl w9 gb 96 #[v', .map (some kb), .map (some pb)]) :
    (∃ κ', EngK3 κ' w9 B gb (es ++ [e]) ∧ (∀ b, b < w.heap.size → κ' b = κ b) ∧ ∀ b, b < w.heap.size → κ b = 0 → w9.heap[b]? = w.heap[b]?) ∧ Below B w w9 := by
  obtain ⟨C, lv', hC, hlab, hrk⟩ := hb9
  have hs5 : w.heap.size ≤ w5.heap.size := hB5.size
  have hs6 := hk6.size
  have hs9 := hk9.size
  have hg := hE.g
  have hkk := hE.kk
  have hkp := hE.kp
  have hgl := hE.c.lt
  have hkl := hE.k.lt
  have hpl := hE.p.lt
  have hav : ∀ b, At v b → (B ≤ b ∧ κ b = 6) ∧ b < w.heap.size := fun b ha => hE.e.at ha
  have hold : ∀ b, b < w.heap.size → b ≠ kb → b ≠ pb → ¬ (B ≤ b ∧ κ b = 4) → b ≠ gb → ¬ At v b → w9.heap[b]? = w.heap[b]? := fun b hb h1 h2 h3 h4 h5 =>
    (hk9.block b (by omega) fun h => h.elim h4 h5).trans ((hk6.block b (by omega) fun h => h.elim h2 fun h => h3 ⟨h.1, h.2.1⟩).trans (hb5 b hb h1))
  have hB6 : Below B w5 w6 := H3.Keep.below hk6 (fun b hb => by rcases hb with rfl | hb <;> omega) (by omega)
  have hB9 : Below B w6 w9 := hk9.below13 (fun b hb => by rcases hb with rfl | hb; omega; exact (hav b hb).1.1) (by omega)
  refine ⟨⟨fun b => if b < w.heap.size then κ b else if b < w6.heap.size then 4 else if b < C then 5 else 6, ⟨kb, pb, m + 1, n + e.line.size, v', R ++ [(lv', e)], ⟨hc9, ?_, ?_, ?_, ?_, ⟨hg.1, by rw [if_pos hgl]; exact hg.2⟩, ⟨hkk.1, by rw [if_pos hkl]; exact hkk.2⟩, ⟨hkp.1, by rw [if_pos hpl]; exact hkp.2⟩⟩, ?_, ?_, ?_⟩, fun b hb => if_pos hb, fun b hb h0 => hold b hb (fun e => by rw [e] at h0; omega) (fun e => by rw [e] at h0; omega) (fun h => by omega) (fun e => by rw [e] at h0; omega) fun ha => by have := (hav b ha).1.2; omega⟩, (hB5.trans hB6).trans hB9⟩
  · rw [List.length_append, List.length_singleton]
    refine hrk.mono fun b hb _ => ?_
    rcases hb with hb | hb
    · have := hav b hb
      exact ⟨this.1.1, by rw [if_pos this.2]; exact this.1.2⟩
    · exact ⟨by omega, by rw [if_neg (by omega), if_neg (by omega), if_neg (by omega)]⟩
  · intro x hx
    rcases List.mem_append.1 hx with hx | hx
    · exact ((hE.l x hx).mono (H := fun b => (B ≤ b ∧ κ b = 5) ∧ b < w.heap.size) fun b hb hlt => ⟨hb, hlt⟩).carry (by omega) (fun b hb _ => hold b hb.2 (fun e => by rw [e] at hb; omega) (fun e => by rw [e] at hb; omega) (fun h => by omega) (fun e => by rw [e] at hb; omega) fun ha => by have := (hav b ha).1.2; omega) |>.mono fun b hb _ => ⟨hb.1.1, by rw [if_pos hb.2]; exact hb.1.2⟩
    · obtain rfl := List.mem_singleton.1 hx
      exact hlab.mono fun b hb _ => ⟨by omega, by rw [if_neg (by omega), if_neg (by omega), if_pos hb.2]⟩
  · rw [List.map_append]
    exact (hm5.carry (hk6.block kb hm5.lt fun h => by rcases h with h | h; rw [h] at hkk; omega; omega)).carry (hk9.block kb (by have := hm5.lt; omega) fun h => by rcases h with h | h; rw [h] at hkk; omega; have := (hav kb h).1.2; omega)
  · rw [List.map_append]
    have hp6' : PlAt (fun b => B ≤ b ∧ (if b < w.heap.size then κ b else if b < w6.heap.size then 4 else if b < C then 5 else 6) = 4) w6 pb (n + e.line.size) (posF (R.map Prod.snd ++ [e])) := hp6.mono (fun b hb hlt => by
      rcases hb with hb | hb
      · exact ⟨hb.1, by rw [if_pos hb.2.2]; exact hb.2.1⟩
      · exact ⟨by omega, by rw [if_neg (by omega), if_pos hlt]⟩) (Nat.le_refl _)
    refine hp6'.carry hs9 (hk9.block pb (by omega) fun h => by rcases h with h | h; rw [h] at hkp; omega; have := (hav pb h).1.2; omega) fun b hb hlt => hk9.block b hlt fun h => ?_
    rcases h with h | h
    · have := hb.2
      rw [h, if_pos hgl] at this
      omega
    · have h2 := hav b h
      have := hb.2
      rw [if_pos h2.2] at this
      omega
  · rw [List.map_append, hR]; rfl
  · rw [List.length_append, List.length_singleton]; omega
  · rw [List.length_append, List.length_singleton]; omega
set_option maxHeartbeats 8000000 in
set_option maxRecDepth 100000 in
theorem add3_any {κ : Nat → Nat} {w : World} {B gb : Nat} {es : List Ent} {e : Ent} {lv : Value} (h : EngK3 κ w B gb es) (hB : B ≤ w.heap.size) (hl : LabsAt (fun b => κ b = 0) w lv e.labs) (hm : e.Mod) (hline : e.line.size ≤ 1000) (hes : ∀ x ∈ es, x.Mod) (hn : es.length ≤ 1000) :
    Calls Tryz.prog 68 #[.pointer (some ⟨gb, 0, none⟩), e.val lv] w fun x w' => x = .returned (.tuple #[]) ∧ (∃ κ', EngK3 κ' w' B gb (addE es e) ∧ (∀ b, b < w.heap.size → κ' b = κ b) ∧ ∀ b, b < w.heap.size → κ b = 0 → w'.heap[b]? = w.heap[b]?) ∧ Below B w w' := by
  have hmx : Tryz.prog.follows .mixedOrders = true := by kernel_rfl
  obtain ⟨kb, pb, m, n, v, R, hE, hR, hmn, hnn⟩ := id h
  obtain ⟨a, ca, rfl, h63, _⟩ := id hl
  obtain ⟨av, cv, rfl⟩ := hE.e.shape
  have HRN : Hid (R.length = es.length) := Lib.hid (by rw [← hR, List.length_map])
  have HRR := Lib.hid hR
  obtain ⟨w1, hw1⟩ : ∃ w1, w1 = w.alloc (.cells #[.int .i64 e.tm, .slice a e.labs.length ca, .string e.line] 32) := ⟨_, rfl⟩
  have hl1 : Lay w w1 := by rw [hw1]; exact (Keep.refl _ w).alloc _
  have hk1 : Bl w1 w.heap.size 32 #[.int .i64 e.tm, .slice a e.labs.length ca, .string e.line] := by rw [hw1]; exact Bl.new w 32 _
  have HGD := Lib.hid (good_any (hl.lay hl1))
  have HW1 := Lib.hid hw1.symm
  have HE := Lib.hid hE
  have HE0 := Lib.hid hE
  have HEE := Lib.hid hE.e
  have HAE : Hid (∀ b, At (.slice av R.length cv) b → (B ≤ b ∧ κ b = 6) ∧ b < w.heap.size) := Lib.hid fun b ha => hE.e.at ha
  have HGW : Hid (gb < w.heap.size) := Lib.hid hE.c.lt
  have HLT : Hid (kb < w.heap.size ∧ pb < w.heap.size) := Lib.hid ⟨hE.k.lt, hE.p.lt⟩
  have HP0 : Hid (PlAt (fun b => B ≤ b ∧ κ b = 4 ∧ b < w.heap.size) w pb n (posF (R.map Prod.snd))) := Lib.hid (hE.p.mono (fun b hb hlt => ⟨hb.1, hb.2, hlt⟩) (Nat.le_refl _))
  have HK1 := Lib.hid hk1
  have HL1 := Lib.hid hl1
  have HL := Lib.hid hl
  have HH := Lib.hid h
  have c0 := hk1.cell 0
  have c1 := hk1.cell 1
  have c2 := hk1.cell 2
  simp only [List.getElem?_toArray, List.getElem?_cons_succ, List.getElem?_cons_zero] at c0 c1 c2
  clear hw1 hl1 hk1 hE hl h hR
  simp only [Ent.val] at HGD ⊢
  cases hok : e.ok with
  | false =>
    rw [hok] at HGD
    go_enter Tryz.func68, Tryz.ntmps68
    go_upto_region 1 with fail
    rw [HW1.out]
    go_wp2_with (go_at_call 24; refine HGD.out.mono ?_; rintro x w2 ⟨rfl, hl2⟩)
    have hl02 := Keep.trans HL1.out hl2
    refine bodyPost_ret (results_none rfl _ _ _) rfl ⟨rfl, ?_, ?_⟩
    · rw [addE_bad hok]; exact ⟨κ, HH.out.below (lay_below hl02), fun _ _ => rfl, fun b hb _ => Lay.block hl02 hb⟩
    · exact (lay_below hl02).mono hB
  | true =>
    rw [hok] at HGD
    go_enter Tryz.func68, Tryz.ntmps68
    go_upto_region 1 with fail
    rw [HW1.out]
    go_wp2_with fail
    refine HGD.out.mono ?_
    rintro x w2 ⟨rfl, hl2⟩
    have hl02 := Keep.trans HL1.out hl2
    have hk2 := HK1.out.below (lay_below hl2)
    have HPT := Lib.hid (put_any (sv := .slice none 0 0) (l := []) (H := fun _ => True) (Rk.nil 1 _ w2) (HL.out.lay hl02) (fun b _ _ ha => by obtain ⟨_, _, ha⟩ := ha; simp at ha) hm (by simp))
    have HL02 := Lib.hid hl02
    have HK2 := Lib.hid hk2
    have c0 := hk2.cell 0
    have c1 := hk2.cell 1
    have c2 := hk2.cell 2
    simp only [List.getElem?_toArray, List.getElem?_cons_succ, List.getElem?_cons_zero] at c0 c1 c2
    simp only [Ent.val, List.nil_append] at HPT
    clear hl2 hl02 hk2 HGD
    go_wp2_with fail
    refine HPT.out.mono ?_
    rintro x w3 ⟨bv, rfl, hby, hk3⟩
    have hl03 : Lay w w3 := Keep.trans HL02.out (hk3.into fun b _ ha => by obtain ⟨_, _, ha⟩ := ha; simp at ha)
    have hl23 : Lay w2 w3 := hk3.into fun b _ ha => by obtain ⟨_, _, ha⟩ := ha; simp at ha
    have hk3 := HK2.out.below (lay_below hl23)
    have hcv : (convert 100 9 bv).run Tryz.prog w3 = .ok (.string e.key) w3 := bs_string hby.bs
    have hE3 := HE.out.below (lay_below hl03)
    have hks : e.key.size ≤ maxLen := by
      have h1 := Ent.bytes_len hm
      have h2 : e.key.size = e.bytes.length := by show e.bytes.toArray.size = _; simp
      unfold maxLen
      omega
    have hmes : hasE (R.map Prod.snd) e = hasE es e := by rw [HRR.out]
    have hlk := hE3.k.look_ok Tryz.underlying9 Tryz.underlying93 (z := .agg #[]) (by kernel_rfl) hks
    rw [known_val, known_is hm (by rw [HRR.out]; exact hes), hmes] at hlk
    have e0 := hE3.c.cell 0
    have e1 := hE3.c.cell 1
    have e2 := hE3.c.cell 2
    simp only [List.getElem?_toArray, List.getElem?_cons_succ, List.getElem?_cons_zero] at e0 e1 e2
    have HL03 := Lib.hid hl03
    have HK3 := Lib.hid hk3
    have HE3 := Lib.hid hE3
    have HKS := Lib.hid hks
    have hgl : gb < w3.heap.size := hE3.c.lt
    clear hby hk3 hl03 hl23 hE3 hks hmes c0 c1 c2 HPT HK2 HK1 HE
    cases hhas : hasE es e with
    | true =>
      rw [hhas] at hlk
      go_wp2_with fail
      have hl04 : Lay w (w3.alloc (.cells #[] 127)) := HL03.out.alloc _
      refine bodyPost_ret (results_none rfl _ _ _) rfl ⟨rfl, ?_, ?_⟩
      · rw [addE_old hhas]; exact ⟨κ, HH.out.below (lay_below hl04), fun _ _ => rfl, fun b hb _ => Lay.block hl04 hb⟩
      · exact (lay_below hl04).mono hB
    | false =>
      rw [hhas] at hlk
      obtain ⟨w4, hw4⟩ : ∃ w4, w4 = w3.alloc (.cells #[] 127) := ⟨_, rfl⟩
      have hl34 : Lay w3 w4 := by rw [hw4]; exact (Keep.refl _ _).alloc _
      have hE4 := HE3.out.below (lay_below hl34)
      obtain ⟨w5, hrun, hm5, hk45⟩ := hE4.k.store Tryz.underlying9 Tryz.underlying93 (by unfold maxLen; omega) HKS.out (.agg #[])
      rw [knownF_snoc] at hm5
      have HW4 := Lib.hid hw4.symm
      have HE4 := Lib.hid hE4
      have HM5 := Lib.hid hm5
      have HK45 := Lib.hid hk45
      have HL34 := Lib.hid hl34
      have g1 := hE4.c.cell 1
      have g0 := hE4.c.cell 0
      have g2 := hE4.c.cell 2
      simp only [List.getElem?_toArray, List.getElem?_cons_succ, List.getElem?_cons_zero] at g0 g1 g2
      have hgl4 : gb < w4.heap.size := hE4.c.lt
      clear hw4 hl34 hE4 hm5 hk45
      go_upto_region 4 with fail
      rw [HW4.out]
      clear e0 e1 e2 hlk hcv
      go_upto_region 6 with fail
      have hb5 : ∀ b, b < w.heap.size → b ≠ kb → w5.heap[b]? = w.heap[b]? := fun b hb hne => (HK45.out.block b (Nat.lt_of_lt_of_le hb (Nat.le_trans HL03.out.size HL34.out.size)) hne).trans ((Lay.block HL34.out (Nat.lt_of_lt_of_le hb HL03.out.size)).trans (Lay.block HL03.out hb))
      have hs5 : w.heap.size < w5.heap.size := Nat.lt_of_lt_of_le (Nat.lt_of_lt_of_le (Nat.lt_of_lt_of_le HK3.out.lt (Nat.le_refl _)) HL34.out.size) HK45.out.size
      have hκ := HE4.out.g
      have hκk := HE4.out.kk
      have hκp := HE4.out.kp
      have hkw : kb < w.heap.size := HLT.out.1
      have hc5 : Bl w5 gb 96 #[.slice av R.length cv, .map (some kb), .map (some pb)] := (HK45.out.block gb hgl4 (fun e => by rw [e] at hκ; omega)).trans HE4.out.c
      have hp5 : PlAt (fun b => B ≤ b ∧ κ b = 4 ∧ b < w.heap.size) w5 pb n (posF (R.map Prod.snd)) :=
        (HP0.out.carry (Nat.le_of_lt hs5) (hb5 _ HP0.out.lt (fun e => by rw [e] at hκp; omega)) fun b hg hlt => hb5 b hlt (fun e => by rw [e] at hg; omega))
      have hx5 : Bl w5 w.heap.size 32 #[.int .i64 e.tm, .slice a e.labs.length ca, .string e.line] := (HK45.out.block _ (HK3.out.below (lay_below HL34.out)).lt (by omega)).trans (HK3.out.below (lay_below HL34.out))
      have HPW := Lib.hid (putWords_any (w := w5.drew) e.line hline R.length (by rw [HRN.out]; omega) (v := .slice av R.length cv) (mk := .map (some kb)) (Bl.below hc5 (lay_below ((Keep.refl (fun _ => False) w5).drew))) (hp5.carry (Nat.le_refl _) rfl fun _ _ _ => rfl) (fun b hb => ⟨fun e => by rw [e] at hb; omega, fun e => by rw [e] at hb; omega⟩) (fun e => by rw [e] at hκ; omega)
        (fun s p hp => by obtain ⟨h1, _⟩ := mem_posF.1 hp; rwa [List.length_map] at h1) (fun s => Nat.le_trans (posF_len _ s) (by rw [List.length_map, HRN.out]; omega)) (by omega))
      rw [show (fun s => posF (R.map Prod.snd) s ++ if H3.hasB e.line s = true then [R.length] else []) = posF (R.map Prod.snd ++ [e]) from funext fun s => by rw [posF_snoc, List.length_map]] at HPW
      have d0 := hc5.cell 0
      have d1 := hc5.cell 1
      have d2 := hc5.cell 2
      have y0 := hx5.cell 0
      have y1 := hx5.cell 1
      have y2 := hx5.cell 2
      simp only [List.getElem?_toArray, List.getElem?_cons_succ, List.getElem?_cons_zero] at d0 d1 d2 y0 y1 y2
      have hgl5 : gb < w5.heap.size := hc5.lt
      have HB5 := Lib.hid hb5
      have HB05 : Hid (Below B w w5) := Lib.hid (((lay_below (Keep.trans HL03.out HL34.out)).mono hB).trans (HK45.out.below13 (fun k hk => by rw [hk]; exact hκk.1) (Nat.le_trans hB (Nat.le_trans HL03.out.size HL34.out.size))))
      have HL5 : Hid (LabsAt (fun b => ¬ (b = pb ∨ (B ≤ b ∧ κ b = 4 ∧ b < w.heap.size)) ∧ b < w5.heap.size) w5 (.slice a e.labs.length ca) e.labs) := Lib.hid ((HL.out.carry (Nat.le_of_lt hs5) fun b hb hlt => hb5 b hlt (fun e => by rw [e] at hb; omega)).mono fun b hb hlt => ⟨fun h => by rcases h with h | h; rw [h] at hb; omega; omega, hlt⟩)
      have HS5 := Lib.hid hs5
      have HC5 := Lib.hid hc5
      have HX5 := Lib.hid hx5
      have HKAP := Lib.hid (And.intro hκ (And.intro hκk (And.intro hκp hkw)))
      clear hb5 hκ hκk hκp hkw hc5 hp5 hx5 hrun g0 g1 g2
      clear hgl4 hgl
      refine (wpIn_wide (n := 9)).1 ?_
      refine H3.wpIn_region_flow (fun _ => trivial) (by kernel_rfl) (H3.waistI 8 w5.drew (fun _ W6 => PlAt (fun b => (B ≤ b ∧ κ b = 4 ∧ b < w.heap.size) ∨ w5.heap.size ≤ b) W6 pb (n + e.line.size) (posF (R.map Prod.snd ++ [e])) ∧ H3.Keep (fun b => b = pb ∨ (B ≤ b ∧ κ b = 4 ∧ b < w.heap.size)) w5 W6)) (fun _ _ _ _ => True) (GV [some (.pointer (some ⟨gb, 0, none⟩)), some (.pointer (some ⟨w.heap.size, 2, none⟩)), some (.string e.line), some (.pointer (some ⟨gb, 0, none⟩)), some (.pointer (some ⟨gb, 0, none⟩)), some (.pointer (some ⟨gb, 0, none⟩)), some (.slice av R.length cv), some (.int .i64 (R.length : Int)), none] [] (fun _ _ _ => True)) (fun j => false) (by kernel_rfl) (by kernel_rfl) ?hst (⟨fun _ => rfl, (fun h => by cases h)⟩) ?step ?fin
      case hst =>
        intro i j ys v w1 w2 hij hanc hned hV hR
        exact gvq_keep (by simp) hij hV
      case step =>
        refine ⟨?_, ?_, ?_, ?_, ?_, ?_, ?_, ?_, ?_, trivial⟩
        · intro listed ys X W1 hsz hsd hi2 hall hX hI hd K hK
          have e0 : X.tmps.getD 0 undef = .pointer (some ⟨gb, 0, none⟩) := hX 0 (Nat.le_of_ble_eq_true rfl)
          obtain rfl := hI.1 (H3.not_yet hsd hi2 (by kernel_rfl))
          have HI := Lib.hid hI
          refine H3.step_run (.inl rfl) ?_
          clear hX hd hI
          go_simp
          exact hK _ _ (HI.out.other (by decide) _) trivial (GV.of (by decide) (fun u h => by cases h; rfl))
        · intro listed ys X W1 hsz hsd hi2 hall hX hI hd K hK
          have e3 : X.tmps.getD 3 undef = .pointer (some ⟨w.heap.size, 0, none⟩) := hX 3 (Nat.le_of_ble_eq_true rfl)
          obtain rfl := hI.1 (H3.not_yet hsd hi2 (by kernel_rfl))
          have HI := Lib.hid hI
          refine H3.step_run (.inl rfl) ?_
          clear hX hd hI
          go_simp
          exact hK _ _ (HI.out.other (by decide) _) trivial (GV.of (by decide) (fun u h => by cases h; rfl))
        · intro listed ys X W1 hsz hsd hi2 hall hX hI hd K hK
          have e34 : X.tmps.getD 34 undef = .pointer (some ⟨w.heap.size, 2, none⟩) := (hX 34 (Nat.le_of_ble_eq_true rfl)).trans (GV.val (hd ⟨1, .data⟩ (by simp) rfl) (by decide) rfl)
          obtain rfl := hI.1 (H3.not_yet hsd hi2 (by kernel_rfl))
          have HI := Lib.hid hI
          refine H3.step_run (.inl rfl) ?_
          clear hX hd hI
          go_simp
          exact hK _ _ (HI.out.other (by decide) _) trivial (GV.of (by decide) (fun u h => by cases h; rfl))
        · intro listed ys X W1 hsz hsd hi2 hall hX hI hd K hK
          have e0 : X.tmps.getD 0 undef = .pointer (some ⟨gb, 0, none⟩) := hX 0 (Nat.le_of_ble_eq_true rfl)
          obtain rfl := hI.1 (H3.not_yet hsd hi2 (by kernel_rfl))
          have HI := Lib.hid hI
          refine H3.step_run (.inl rfl) ?_
          clear hX hd hI
          go_simp
          exact hK _ _ (HI.out.other (by decide) _) trivial (GV.of (by decide) (fun u h => by cases h; rfl))
        · intro listed ys X W1 hsz hsd hi2 hall hX hI hd K hK
          have e36 : X.tmps.getD 36 undef = .pointer (some ⟨gb, 0, none⟩) := (hX 36 (Nat.le_of_ble_eq_true rfl)).trans (GV.val (hd ⟨3, .data⟩ (by simp) rfl) (by decide) rfl)
          obtain rfl := hI.1 (H3.not_yet hsd hi2 (by kernel_rfl))
          have HI := Lib.hid hI
          refine H3.step_run (.inl rfl) ?_
          clear hX hd hI
          go_simp
          exact hK _ _ (HI.out.other (by decide) _) trivial (GV.of (by decide) (fun u h => by cases h; rfl))
        · intro listed ys X W1 hsz hsd hi2 hall hX hI hd K hK
          have e37 : X.tmps.getD 37 undef = .pointer (some ⟨gb, 0, none⟩) := (hX 37 (Nat.le_of_ble_eq_true rfl)).trans (GV.val (hd ⟨4, .data⟩ (by simp) rfl) (by decide) rfl)
          obtain rfl := hI.1 (H3.not_yet hsd hi2 (by kernel_rfl))
          have HI := Lib.hid hI
          refine H3.step_run (.inl rfl) ?_
          clear hX hd hI
          go_simp
          exact hK _ _ (HI.out.other (by decide) _) trivial (GV.of (by decide) (fun u h => by cases h; rfl))
        · intro listed ys X W1 hsz hsd hi2 hall hX hI hd K hK
          have e38 : X.tmps.getD 38 undef = .pointer (some ⟨gb, 0, none⟩) := (hX 38 (Nat.le_of_ble_eq_true rfl)).trans (GV.val (hd ⟨5, .data⟩ (by simp) rfl) (by decide) rfl)
          obtain rfl := hI.1 (H3.not_yet hsd hi2 (by kernel_rfl))
          have HI := Lib.hid hI
          refine H3.step_run (.inl rfl) ?_
          clear hX hd hI
          go_simp
          exact hK _ _ (HI.out.other (by decide) _) trivial (GV.of (by decide) (fun u h => by cases h; rfl))
        · intro listed ys X W1 hsz hsd hi2 hall hX hI hd K hK
          have e39 : X.tmps.getD 39 undef = .slice av R.length cv := (hX 39 (Nat.le_of_ble_eq_true rfl)).trans (GV.val (hd ⟨6, .data⟩ (by simp) rfl) (by decide) rfl)
          obtain rfl := hI.1 (H3.not_yet hsd hi2 (by kernel_rfl))
          have HI := Lib.hid hI
          refine H3.step_run (.inl rfl) ?_
          clear hX hd hI
          go_simp
          exact hK _ _ (HI.out.other (by decide) _) trivial (GV.of (by decide) (fun u h => by cases h; rfl))
        · intro listed ys X W1 hsz hsd hi2 hall hX hI hd K hK
          have e33 : X.tmps.getD 33 undef = .pointer (some ⟨gb, 0, none⟩) := (hX 33 (Nat.le_of_ble_eq_true rfl)).trans (GV.val (hd ⟨0, .data⟩ (by simp) rfl) (by decide) rfl)
          have e35 : X.tmps.getD 35 undef = .string e.line := (hX 35 (Nat.le_of_ble_eq_true rfl)).trans (GV.val (hd ⟨2, .data⟩ (by simp) rfl) (by decide) rfl)
          have e40 : X.tmps.getD 40 undef = .int .i64 (R.length : Int) := (hX 40 (Nat.le_of_ble_eq_true rfl)).trans (GV.val (hd ⟨7, .data⟩ (by simp) rfl) (by decide) rfl)
          obtain rfl := hI.1 hi2
          refine H3.step_run (.inl rfl) ?_
          clear hX hd
          go_simp
          refine ⟨trivial, (callsIn_wide.2 (HPW.out)).mono ?_⟩
          rintro x w6 ⟨rfl, hp6, hk6⟩
          exact hK _ _ (H3.waistI.call (by rw [hsz]; decide) ⟨hp6, ⟨hk6.os, hk6.tape, hk6.output, hk6.size, hk6.block⟩⟩) trivial (GV.of (by decide) (fun u h => by cases h))
      case fin =>
        intro listed ys w6 hall hI _
        obtain ⟨hp6, hk6⟩ := hI.2 (hall 8 (by decide))
        clear hall hI d0 d1 d2 y0 y1 y2
        simp only [H3.putsFrom]
        simp only [Act.put, List.setIfInBounds_toArray, List.set_cons_succ, List.set_cons_zero]
        have hκ := HKAP.out
        have hk6s := hk6.size
        have HC6 : Hid (Bl w6.drew gb 96 #[.slice av R.length cv, .map (some kb), .map (some pb)]) := Lib.hid ((hk6.block gb hgl5 fun h => by
          rcases h with h | h
          · rw [h] at hκ; omega
          · omega).trans HC5.out)
        have HAV0 : ∀ b, At (.slice av R.length cv) b → (B ≤ b ∧ κ b = 6) ∧ b < w.heap.size := fun b ha => HAE.out b ha
        have HAV : Hid (∀ b, At (.slice av R.length cv) b → b < w6.drew.heap.size ∧ b ≠ gb) := Lib.hid fun b ha => by
          have h1 := HAV0 b ha
          have h2 := HS5.out
          exact ⟨Nat.lt_of_lt_of_le h1.2 (Nat.le_trans (Nat.le_of_lt h2) hk6s), fun e => by rw [e] at h1; omega⟩
        have HGL : Hid (gb < w6.drew.heap.size) := Lib.hid (Nat.lt_of_lt_of_le hgl5 hk6s)
        have HX6 : Hid (Bl w6.drew w.heap.size 32 #[.int .i64 e.tm, .slice a e.labs.length ca, .string e.line]) := Lib.hid ((hk6.block _ HS5.out fun h => by
          rcases h with h | h
          · have := HLT.out.2; omega
          · omega).trans HX5.out)
        have HCX : Hid (∀ W1, Keep (fun q => q = gb ∨ At (.slice av R.length cv) q) w6.drew W1 → Bl W1 w.heap.size 32 #[.int .i64 e.tm, .slice a e.labs.length ca, .string e.line]) := Lib.hid fun W1 h => (h.block _ HX6.out.lt fun hq => by
          rcases hq with hq | hq
          · have := HGW.out; omega
          · have := (HAV0 _ hq).2; omega).trans HX6.out
        have HOW : Hid (∀ W1, Lay w6.drew W1 → Calls Tryz.prog 73 #[.agg #[.int .i64 e.tm, .slice a e.labs.length ca, .string e.line]] W1 fun x w' => ∃ lv', x = .returned (e.val lv') ∧ LabsAt (fun k => W1.heap.size ≤ k) w' lv' e.labs ∧ Lay W1 w') := Lib.hid fun W1 h =>
          own_any (((HL5.out.carry hk6s fun b hg _ => hk6.block b hg.2 hg.1).lay ((Keep.refl (fun _ => False) w6).drew)).lay h) (by have := hm.labs.1; omega)
        have HRK : Hid (∀ W1, Lay w6.drew W1 → Rk 3 (fun _ => True) W1 (.slice av R.length cv) R.length (flatR R)) := Lib.hid fun W1 h =>
          ((((HEE.out.mono (G' := fun b => (B ≤ b ∧ κ b = 6) ∧ b < w.heap.size) fun b hg ha => ⟨hg, (HAE.out b ha).2⟩).carry (Nat.le_trans (Nat.le_of_lt HS5.out) hk6s) fun b hg _ hlt => (hk6.block b (Nat.lt_trans hg.2 HS5.out) fun h => by
            rcases h with h | h
            · have := hg.1.2; rw [h] at this; omega
            · omega).trans (HB5.out b hg.2 fun h => by have := hg.1.2; rw [h] at this; omega)).drew).lay h).mono fun _ _ _ => trivial
        have HLN : Hid (R.length ≤ 1000) := Lib.hid (by rw [HRN.out]; exact hn)
        have HP6 := Lib.hid hp6
        have HK6 := Lib.hid hk6
        obtain ⟨iE, zE, EE⟩ := elem24
        clear hκ hk6s HAV0 hp6 hk6
        go_upto_region 7 with fail
        refine (wpIn_wide (n := 9)).1 ?_
        refine H3.wpIn_region_flow (fun _ => trivial) (by kernel_rfl) (QS w6.drew gb (.slice av R.length cv) (.map (some kb)) (.map (some pb)) R.length R e) (fun i _ W1 W2 => i = 8 ∨ i = 11 ∨ Lay W1 W2) (GV [some (.pointer (some ⟨gb, 0, none⟩)), some (.pointer (some ⟨gb, 0, none⟩)), some (.pointer (some ⟨gb, 0, none⟩)), some (.pointer (some ⟨gb, 0, none⟩)), some (.slice av R.length cv), some (.agg #[.int .i64 e.tm, .slice a e.labs.length ca, .string e.line]), none, none, none, some (.pointer (some ⟨gb, 0, none⟩)), some (.pointer (some ⟨gb, 0, none⟩)), none] [6, 7] (QV w6.drew.heap.size e)) (fun j => false) (by kernel_rfl) (by kernel_rfl) ?hst (⟨Keep.refl _ _, fun _ => Keep.refl _ _, (fun h => by cases h), HC6.out⟩) ?step ?fin
        case hst =>
          intro i j ys v w1 w2 hij hanc hned hV hR
          by_cases hj6 : j = 6
          · subst hj6
            rcases hR with rfl | rfl | hR
            · cases hned.symm.trans (by kernel_rfl : _ = false)
            · cases hned.symm.trans (by kernel_rfl : _ = false)
            · exact GV.keep (sp := QV w6.drew.heap.size e) (fun _ _ _ _ h hb => QV.below h hb) hij hV (lay_below hR)
          by_cases hj7 : j = 7
          · subst hj7
            rcases hR with rfl | rfl | hR
            · cases hned.symm.trans (by kernel_rfl : _ = false)
            · cases hned.symm.trans (by kernel_rfl : _ = false)
            · exact GV.keep (sp := QV w6.drew.heap.size e) (fun _ _ _ _ h hb => QV.below h hb) hij hV (lay_below hR)
          exact gvq_keep (by simp; omega) hij hV
        case step =>
          refine ⟨?_, ?_, ?_, ?_, ?_, ?_, ?_, ?_, ?_, ?_, ?_, ?_, trivial⟩
          · intro listed ys X W1 hsz hsd hi2 hall hX hI hd K hK
            have e0 : X.tmps.getD 0 undef = .pointer (some ⟨gb, 0, none⟩) := hX 0 (Nat.le_of_ble_eq_true rfl)
            have HI := Lib.hid hI
            refine H3.step_run (.inl rfl) ?_
            clear hX hd hI
            go_simp
            exact hK _ _ (HI.out.other (Keep.refl _ _) (by decide) (by decide) _) (.inr (.inr (Keep.refl _ _))) (GV.of (by decide) (fun u h => by cases h; rfl))
          · intro listed ys X W1 hsz hsd hi2 hall hX hI hd K hK
            have e0 : X.tmps.getD 0 undef = .pointer (some ⟨gb, 0, none⟩) := hX 0 (Nat.le_of_ble_eq_true rfl)
            have HI := Lib.hid hI
            refine H3.step_run (.inl rfl) ?_
            clear hX hd hI
            go_simp
            exact hK _ _ (HI.out.other (Keep.refl _ _) (by decide) (by decide) _) (.inr (.inr (Keep.refl _ _))) (GV.of (by decide) (fun u h => by cases h; rfl))
          · intro listed ys X W1 hsz hsd hi2 hall hX hI hd K hK
            have e43 : X.tmps.getD 43 undef = .pointer (some ⟨gb, 0, none⟩) := (hX 43 (Nat.le_of_ble_eq_true rfl)).trans (GV.val (hd ⟨1, .data⟩ (by simp) rfl) (by decide) rfl)
            have HI := Lib.hid hI
            refine H3.step_run (.inl rfl) ?_
            clear hX hd hI
            go_simp
            exact hK _ _ (HI.out.other (Keep.refl _ _) (by decide) (by decide) _) (.inr (.inr (Keep.refl _ _))) (GV.of (by decide) (fun u h => by cases h; rfl))
          · intro listed ys X W1 hsz hsd hi2 hall hX hI hd K hK
            have e44 : X.tmps.getD 44 undef = .pointer (some ⟨gb, 0, none⟩) := (hX 44 (Nat.le_of_ble_eq_true rfl)).trans (GV.val (hd ⟨2, .data⟩ (by simp) rfl) (by decide) rfl)
            have HI := Lib.hid hI
            refine H3.step_run (.inl rfl) ?_
            clear hX hd hI
            go_simp
            exact hK _ _ (HI.out.other (Keep.refl _ _) (by decide) (by decide) _) (.inr (.inr (Keep.refl _ _))) (GV.of (by decide) (fun u h => by cases h; rfl))
          · intro listed ys X W1 hsz hsd hi2 hall hX hI hd K hK
            have e45 : X.tmps.getD 45 undef = .pointer (some ⟨gb, 0, none⟩) := (hX 45 (Nat.le_of_ble_eq_true rfl)).trans (GV.val (hd ⟨3, .data⟩ (by simp) rfl) (by decide) rfl)
            have hc := hI.c
            rw [H3.not_yet hsd hi2 (c := 11) (by kernel_rfl)] at hc
            have k0 := hc.cell 0
            simp only [Bool.false_eq_true, if_false, List.getElem?_toArray, List.getElem?_cons_zero] at k0
            clear hc
            have HI := Lib.hid hI
            refine H3.step_run (.inl rfl) ?_
            clear hX hd hI
            go_simp
            exact hK _ _ (HI.out.other (Keep.refl _ _) (by decide) (by decide) _) (.inr (.inr (Keep.refl _ _))) (GV.of (by decide) (fun u h => by cases h; rfl))
          · intro listed ys X W1 hsz hsd hi2 hall hX hI hd K hK
            have e3 : X.tmps.getD 3 undef = .pointer (some ⟨w.heap.size, 0, none⟩) := hX 3 (Nat.le_of_ble_eq_true rfl)
            have hx := HCX.out W1 hI.k
            have x0 := hx.cell 0
            have x1 := hx.cell 1
            have x2 := hx.cell 2
            simp only [List.getElem?_toArray, List.getElem?_cons_succ, List.getElem?_cons_zero] at x0 x1 x2
            clear hx
            have HI := Lib.hid hI
            refine H3.step_run (.inl rfl) ?_
            clear hX hd hI
            go_simp
            exact hK _ _ (HI.out.other (Keep.refl _ _) (by decide) (by decide) _) (.inr (.inr (Keep.refl _ _))) (GV.of (by decide) (fun u h => by cases h; rfl))
          · intro listed ys X W1 hsz hsd hi2 hall hX hI hd K hK
            have e47 : X.tmps.getD 47 undef = .agg #[.int .i64 e.tm, .slice a e.labs.length ca, .string e.line] := (hX 47 (Nat.le_of_ble_eq_true rfl)).trans (GV.val (hd ⟨5, .data⟩ (by simp) rfl) (by decide) rfl)
            have hl := hI.a (H3.not_yet hsd hi2 (c := 8) (by kernel_rfl))
            have HI := Lib.hid hI
            refine H3.step_run (.inl rfl) ?_
            clear hX hd hI
            go_simp
            refine ⟨trivial, (callsIn_wide.2 (HOW.out W1 hl)).mono ?_⟩
            rintro x w7 ⟨lv', rfl, hlab, hl7⟩
            exact hK _ _ (HI.out.other hl7 (by decide) (by decide) _) (.inr (.inr hl7)) (GV.ofsp (by decide) (show QV w6.drew.heap.size e 6 (e.val lv') w7 from ⟨lv', rfl, hlab.mono fun b hb _ => Nat.le_trans hl.size hb⟩))
          · intro listed ys X W1 hsz hsd hi2 hall hX hI hd K hK
            have e48 : X.tmps.getD 48 undef = ys 6 := hX 48 (Nat.le_of_ble_eq_true rfl)
            have hv6 := GV.spv (hd ⟨6, .data⟩ (by simp) rfl) (by decide)
            have hl := hI.a (H3.not_yet hsd hi2 (c := 8) (by kernel_rfl))
            have HI := Lib.hid hI
            obtain ⟨lv', hv, hlab⟩ : ∃ lv', ys 6 = e.val lv' ∧ LabsAt (fun b => w6.drew.heap.size ≤ b) W1 lv' e.labs := hv6
            obtain ⟨a2, c2, rfl, _⟩ := id hlab
            rw [hv] at e48
            simp only [Ent.val] at e48
            have e48' : X.tmps[48]?.getD undef = .agg #[.int .i64 e.tm, .slice a2 e.labs.length c2, .string e.line] := by rw [← Array.getD_eq_getD_getElem?]; exact e48
            have HLB := Lib.hid hlab
            have HLW := Lib.hid hl
            refine H3.step_run (.inl rfl) ?_
            clear hX hd hI hlab hv hl
            go_simp
            exact hK _ _ (HI.out.other ((Keep.refl _ _).alloc _) (by decide) (by decide) _) (.inr (.inr ((Keep.refl _ _).alloc _))) (GV.ofsp (by decide) (show QV w6.drew.heap.size e 7 _ _ from ⟨W1.heap.size, _, rfl, HLW.out.size, Bl.new W1 32 _, (HLB.out.mono (H := fun b => w6.drew.heap.size ≤ b ∧ b < W1.heap.size) fun b hb hlt => ⟨hb, hlt⟩).alloc _⟩))
          · intro listed ys X W1 hsz hsd hi2 hall hX hI hd K hK
            have e46 : X.tmps.getD 46 undef = .slice av R.length cv := (hX 46 (Nat.le_of_ble_eq_true rfl)).trans (GV.val (hd ⟨4, .data⟩ (by simp) rfl) (by decide) rfl)
            have e49 : X.tmps.getD 49 undef = ys 7 := hX 49 (Nat.le_of_ble_eq_true rfl)
            have hv7 := GV.spv (hd ⟨7, .data⟩ (by simp) rfl) (by decide)
            have hl := hI.a hi2
            have h11 := H3.not_yet hsd hi2 (c := 11) (by kernel_rfl)
            have hs8 : 8 < listed.size := by rw [hsz]; decide
            obtain ⟨C, lv', hv, hC, hbl, hlab⟩ : ∃ C lv', ys 7 = .slice (some ⟨C, 0, none⟩) 1 1 ∧ w6.drew.heap.size ≤ C ∧ Bl W1 C 32 #[.int .i64 e.tm, lv', .string e.line] ∧ LabsAt (fun b => w6.drew.heap.size ≤ b ∧ b < C) W1 lv' e.labs := hv7
            rw [hv] at e49
            obtain ⟨v', W2, hrun, hr, hk⟩ := run_append_rk EE (HRK.out W1 hl) (fun _ _ => trivial) 43 43 _ 1 (flatR [(lv', e)]) (src_ent hbl hlab) (by have := HLN.out; omega) (by have := HLN.out; omega)
            refine H3.step_run (.inl rfl) ?_
            refine operIn_append13 (.tmp 46) (.tmp 49) 43 rfl e46 e49 hrun ?_
            have hnav : ∀ b, At (.slice av R.length cv) b → b < w6.drew.heap.size ∧ b ≠ gb := HAV.out
            refine hK _ _ ⟨Keep.trans hI.k (hk.into fun q _ h => .inr h), fun q => by simp [Array.getD, hs8] at q, fun _ => ⟨C, lv', hC, hlab.keep hk fun b hb _ ha => by have := (hnav b ha).1; omega, ?_⟩, ?_⟩ (.inl rfl) (GV.of (by decide) (fun u h => by cases h))
            · rw [H3.upd_same, flatR_append]
              exact hr.mono fun q hq _ => hq.2.imp id fun h => by have := hbl.lt; omega
            · have e11 : (listed.setIfInBounds 8 true).getD 11 false = false := (getD_set_ne false (by decide)).trans h11
              have hc := hI.c
              rw [h11] at hc
              rw [e11]
              exact (hk.block gb (hc.lt) fun ha => (hnav gb ha).2 rfl).trans hc
          · intro listed ys X W1 hsz hsd hi2 hall hX hI hd K hK
            have e42 : X.tmps.getD 42 undef = .pointer (some ⟨gb, 0, none⟩) := (hX 42 (Nat.le_of_ble_eq_true rfl)).trans (GV.val (hd ⟨0, .data⟩ (by simp) rfl) (by decide) rfl)
            have HI := Lib.hid hI
            refine H3.step_run (.inl rfl) ?_
            clear hX hd hI
            go_simp
            exact hK _ _ (HI.out.other (Keep.refl _ _) (by decide) (by decide) _) (.inr (.inr (Keep.refl _ _))) (GV.of (by decide) (fun u h => by cases h; rfl))
          · intro listed ys X W1 hsz hsd hi2 hall hX hI hd K hK
            have e51 : X.tmps.getD 51 undef = .pointer (some ⟨gb, 0, none⟩) := (hX 51 (Nat.le_of_ble_eq_true rfl)).trans (GV.val (hd ⟨9, .data⟩ (by simp) rfl) (by decide) rfl)
            have HI := Lib.hid hI
            refine H3.step_run (.inl rfl) ?_
            clear hX hd hI
            go_simp
            exact hK _ _ (HI.out.other (Keep.refl _ _) (by decide) (by decide) _) (.inr (.inr (Keep.refl _ _))) (GV.of (by decide) (fun u h => by cases h; rfl))
          · intro listed ys X W1 hsz hsd hi2 hall hX hI hd K hK
            have e52 : X.tmps.getD 52 undef = .pointer (some ⟨gb, 0, none⟩) := (hX 52 (Nat.le_of_ble_eq_true rfl)).trans (GV.val (hd ⟨10, .data⟩ (by simp) rfl) (by decide) rfl)
            have e50 : X.tmps.getD 50 undef = ys 8 := hX 50 (Nat.le_of_ble_eq_true rfl)
            have h8 := hall ⟨8, .data⟩ (by simp) rfl
            have hs11 : 11 < listed.size := by rw [hsz]; decide
            obtain ⟨C, lv', hC, hlab, hr⟩ := hI.b h8
            have hc := hI.c
            rw [hi2] at hc
            obtain ⟨a3, c3, hsh⟩ := hr.shape
            have hnav : ∀ b, At (.slice av R.length cv) b → b < w6.drew.heap.size ∧ b ≠ gb := HAV.out
            have hgw : gb < w6.drew.heap.size := HGL.out
            have hset := hc.set12 0 (ys 8)
            simp only [Bool.false_eq_true, if_false, List.setIfInBounds_toArray, List.set_cons_zero] at hset hc
            have hks : Keep (fun k => k = gb) W1 (W1.setCell ⟨gb, 0, none⟩ (ys 8)) := keep_set12 (Keep.refl _ _) 0 _
            have HN := Lib.hid (show QS w6.drew gb (.slice av R.length cv) (.map (some kb)) (.map (some pb)) R.length R e (listed.setIfInBounds 11 true) (H3.upd ys 11 undef) (W1.setCell ⟨gb, 0, none⟩ (ys 8)) from ⟨Keep.trans hI.k (hks.into fun q _ h => .inl h), (fun q => by
                rw [show (listed.setIfInBounds 11 true).getD 8 false = listed.getD 8 false from getD_set_ne false (by decide), h8] at q; cases q), (fun _ => ⟨C, lv', hC, hlab.keep hks fun b hb _ ha => by have : b = gb := ha; omega, by
                rw [H3.upd_other _ _ (by decide)]
                exact hr.carry hks.size fun q hq _ hlt => hks.block q hlt fun e2 => by
                  have e3 : q = gb := e2
                  rcases hq with hq | hq
                  · exact (hnav q hq).2 e3
                  · omega⟩), by
                rw [show (listed.setIfInBounds 11 true).getD 11 false = true from by simp [Array.getD, hs11], H3.upd_other _ _ (by decide)]
                exact hset⟩)
            have k0 := hc.cell 0
            have z0 := hc.frozen 0
            simp only [List.getElem?_toArray, List.getElem?_cons_zero] at k0
            refine H3.step_run (.inl rfl) ?_
            rw [hsh] at e50 HN
            clear hX hd hI hset hks hc hr hlab hnav
            go_simp
            exact hK _ _ HN.out (.inr (.inl rfl)) (GV.of (by decide) (fun u h => by cases h))
        case fin =>
          intro listed ys w9 hall hI _
          have hb := hI.b (hall 8 (by decide))
          have hc := hI.c
          rw [hall 11 (by decide)] at hc
          have hk := hI.k
          have HEND := Lib.hid (add_end3 HE0.out HRR.out hmn hnn hB hline HB5.out HB05.out HM5.out HP6.out HK6.out (w9 := w9) ⟨hk.os, hk.tape, hk.output, hk.size, Nat.le_trans (Nat.le_succ _) hk.drawn, hk.block⟩ hb hc)
          clear hall hI hb hc hk
          simp only [H3.putsFrom]
          simp only [Act.put, List.setIfInBounds_toArray, List.set_cons_succ, List.set_cons_zero]
          go_wp2_with fail
          go_end0
          refine ⟨rfl, ?_, HEND.out.2⟩
          rw [addE_yes hok hhas]
          exact HEND.out.1
end Go.Proofs.YtoobjjpheegmdaaGreat.E4
