/-
  Nw16.
-/
import Derived.Test.YtoobjjpheegmdaaGreatJ37
namespace Go.Proofs.YtoobjjpheegmdaaGreat.E4
open Go.RowKit Go
set_option maxHeartbeats 1000000 in
set_option maxRecDepth 100000 in
theorem ownG_any {G : Nat → Prop} {w : World} {e : Ent} {lv : Value} (h : LabsAt G w lv e.labs) (hn : e.labs.length ≤ 1000000) :
    Calls Tryz.prog 25 #[e.val lv] w fun x w' => ∃ lv', x = .returned (e.val lv') ∧ LabsAt (fun k => w.heap.size ≤ k) w' lv' e.labs ∧ Lay w w' := by
  obtain ⟨a, ca, rfl, h63, _⟩ := id h
  obtain ⟨w1, hw1⟩ : ∃ w1, w1 = w.alloc (.cells #[.int .i64 e.tm, .slice a e.labs.length ca, .string e.line] 32) := ⟨_, rfl⟩
  have hl1 : Lay w w1 := by rw [hw1]; exact (Keep.refl _ w).alloc _
  have hk1 : Bl w1 w.heap.size 32 #[.int .i64 e.tm, .slice a e.labs.length ca, .string e.line] := by rw [hw1]; exact Bl.new w 32 _
  obtain ⟨w2, hw2⟩ : ∃ w2, w2 = w1.alloc (.cells #[.int .i64 0, .slice none 0 0, .string ⟨#[]⟩] 32) := ⟨_, rfl⟩
  have hl12 : Lay w1 w2 := by rw [hw2]; exact (Keep.refl _ w1).alloc _
  have hs1 : w1.heap.size = w.heap.size + 1 := by rw [hw1]; simp
  have hk2 : Bl w2 (w.heap.size + 1) 32 #[.int .i64 0, .slice none 0 0, .string ⟨#[]⟩] := by rw [hw2, ← hs1]; exact Bl.new w1 32 _
  have hka : Bl w2 w.heap.size 32 #[.int .i64 e.tm, .slice a e.labs.length ca, .string e.line] := hk1.below (lay_below hl12)
  have hl2 : Lay w w2 := Keep.trans hl1 hl12
  have HC := Lib.hid (cloneL_any (h.lay hl2) hn)
  have HL2 := Lib.hid hl2
  have HKA := Lib.hid hka
  have HK2 := Lib.hid hk2
  rw [hw1] at hw2
  have HW2 := Lib.hid hw2.symm
  have HN := Lib.hid hn
  have c0 := hka.cell 0
  have c1 := hka.cell 1
  have c2 := hka.cell 2
  have f1 := hka.frozen 1
  simp only [List.getElem?_toArray, List.getElem?_cons_succ, List.getElem?_cons_zero] at c0 c1 c2
  have hsl : w.heap.size < w2.heap.size := hka.lt
  clear hl1 hk1 hl12 hs1 hka hk2 hl2 hw2 hw1 h
  unfold Ent.val
  go_enter Tryz.func25, Tryz.ntmps25
  go_upto_region 1 with fail
  rw [HW2.out]
  go_wp2_with fail
  refine HC.out.mono ?_
  rintro x w3 ⟨lv', rfl, hlab, hl3⟩
  obtain ⟨b, cb, rfl, _, _⟩ := id hlab
  have hka3 := HKA.out.below (lay_below hl3)
  have hk23 := HK2.out.below (lay_below hl3)
  obtain ⟨w4, hw4⟩ : ∃ w4, w4 = w3.setCell ⟨w.heap.size, 1, none⟩ (.slice b e.labs.length cb) := ⟨_, rfl⟩
  have hka4 : Bl w4 w.heap.size 32 #[.int .i64 e.tm, .slice b e.labs.length cb, .string e.line] := by
    have := hka3.set12 1 (.slice b e.labs.length cb)
    simp only [List.setIfInBounds_toArray, List.set_cons_zero, List.set_cons_succ] at this
    rw [hw4]; exact this
  have hk34 : Keep (fun k => k = w.heap.size) w3 w4 := by rw [hw4]; exact keep_set12 (Keep.refl _ _) _ _
  have hk24 : Bl w4 (w.heap.size + 1) 32 #[.int .i64 0, .slice none 0 0, .string ⟨#[]⟩] := (hk34.block _ hk23.lt (by omega)).trans hk23
  have hf := fill3 hk24 (.int .i64 e.tm) (.slice b e.labs.length cb) (.string e.line)
  have HF := Lib.hid hf
  have d0 := hka4.cell 0
  have d1 := hka4.cell 1
  have d2 := hka4.cell 2
  have y0 := hk24.cell 0
  have y1 := hk24.cell 1
  have y2 := hk24.cell 2
  have z0 := hk24.frozen 0
  have z1 := hk24.frozen 1
  have z2 := hk24.frozen 2
  have b1 := hka3.cell 1
  have g1 := hka3.frozen 1
  simp only [List.getElem?_toArray, List.getElem?_cons_succ, List.getElem?_cons_zero] at d0 d1 d2 y0 y1 y2 b1
  have HLB := Lib.hid hlab
  have HK34 := Lib.hid hk34
  have HL3 := Lib.hid hl3
  have HW4 := Lib.hid hw4.symm
  clear hka3 hk23 hw4 hka4 hk34 hk24 hf hlab hl3 c0 c1 c2 f1
  go_upto_region 2 with fail
  rw [HW4.out]
  go_wp2_with fail
  have e0 := HF.out.1.cell 0
  have e1 := HF.out.1.cell 1
  have e2 := HF.out.1.cell 2
  simp only [List.getElem?_toArray, List.getElem?_cons_succ, List.getElem?_cons_zero] at e0 e1 e2
  have hk35 : Keep (fun k => w.heap.size ≤ k ∧ k < w2.heap.size) w3 (((w4.setCell ⟨w.heap.size + 1, 0, none⟩ (.int .i64 e.tm)).setCell ⟨w.heap.size + 1, 1, none⟩ (.slice b e.labs.length cb)).setCell ⟨w.heap.size + 1, 2, none⟩ (.string e.line)) :=
    Keep.trans (HK34.out.into fun k _ hk => by have := HKA.out.lt; omega) (HF.out.2.into fun k _ hk => by have := HK2.out.lt; omega)
  have hk05 : Lay w (((w4.setCell ⟨w.heap.size + 1, 0, none⟩ (.int .i64 e.tm)).setCell ⟨w.heap.size + 1, 1, none⟩ (.slice b e.labs.length cb)).setCell ⟨w.heap.size + 1, 2, none⟩ (.string e.line)) :=
    Keep.into (Keep.trans ((Keep.trans HL2.out HL3.out).into (H := fun k => w.heap.size ≤ k) (fun _ _ h => h.elim)) (hk35.into fun k _ hk => hk.1)) fun k hlt hk => by omega
  refine bodyPost_ret (v := .agg #[.int .i64 e.tm, .slice b e.labs.length cb, .string e.line]) (by simp [results, Tryz.results25, go_sem, e0, e1, e2]) rfl
    ⟨_, rfl, (HLB.out.keep hk35 fun k hk _ hk2 => by omega).mono fun k hk _ => Nat.le_trans HL2.out.size hk, hk05⟩
set_option maxRecDepth 100000 in
theorem make_no {k : Int} (hk : ¬ (1 ≤ k ∧ k ≤ 3)) (w : World) : Calls Tryz.prog 18 #[.int .i64 k] w fun x w' => x = .returned .nilIface ∧ w' = w := by
  have h1 : (k == 1) = false := by rw [beq_eq_false_iff_ne]; omega
  have h2 : (k == 2) = false := by rw [beq_eq_false_iff_ne]; omega
  have h3 : (k == 3) = false := by rw [beq_eq_false_iff_ne]; omega
  clear hk
  go_enter Tryz.func18, Tryz.ntmps18
  go_wp2_with fail
  go_ret
  exact ⟨rfl, rfl⟩
set_option maxRecDepth 100000 in
theorem make_yes {k : Nat} (hk : k = 1 ∨ k = 2 ∨ k = 3) (w : World) (hm : MaxI w) : Calls Tryz.prog 18 #[.int .i64 (k : Int)] w fun x w' => ∃ gb, x = .returned (engV k (some gb)) ∧ EngF k (fun b => w.heap.size ≤ b) w' gb [] ∧ Lay w w' := by
  have HN := Lib.hid (newF_any hk w hm)
  clear hm
  rcases hk with rfl | rfl | rfl
  · go_enter Tryz.func18, Tryz.ntmps18
    go_wp2_with fail
    refine HN.out.mono ?_
    rintro x w2 ⟨gb, rfl, he, hl⟩
    have HE := Lib.hid he
    have HL := Lib.hid hl
    clear he hl
    go_wp2_with fail
    go_ret
    exact ⟨gb, rfl, HE.out, HL.out⟩
  · go_enter Tryz.func18, Tryz.ntmps18
    go_wp2_with fail
    refine HN.out.mono ?_
    rintro x w2 ⟨gb, rfl, he, hl⟩
    have HE := Lib.hid he
    have HL := Lib.hid hl
    clear he hl
    go_wp2_with fail
    go_ret
    exact ⟨gb, rfl, HE.out, HL.out⟩
  · go_enter Tryz.func18, Tryz.ntmps18
    go_wp2_with fail
    refine HN.out.mono ?_
    rintro x w2 ⟨gb, rfl, he, hl⟩
    have HE := Lib.hid he
    have HL := Lib.hid hl
    clear he hl
    go_wp2_with fail
    go_ret
    exact ⟨gb, rfl, HE.out, HL.out⟩
theorem infoP : (Tryz.prog.info? 69).map (fun i => (i.zero, i.size, i.bytes)) = some (some (.agg #[.int .i64 0, .int .i64 0, .nilIface]), 3, 32) := by kernel_rfl
theorem elemP : ∃ i z, Elem Tryz.prog 65 69 i z 3 32 := by
  obtain ⟨i, hi, hz, hs, hb⟩ := info_parts infoP
  exact ⟨i, _, Tryz.underlying65, hi, hz, hs, hb, by kernel_rfl⟩
theorem src_rep {r : Rep} {w : World} : Src Tryz.prog 3 65 (.slice (some ⟨w.heap.size, 0, none⟩) 1 1) 1 (flatP [r]) (w.alloc (.cells #[.int .i64 r.k, .int .i64 r.ep, engV r.k r.eb] 69)) :=
  Rk.src Tryz.underlying65 (rk_new 3 w 1 (flatP [r]) 69 rfl (by omega)) (fun u hu => by
    simp only [flatP, repC, List.append_nil, List.mem_cons, List.not_mem_nil, or_false] at hu
    rcases hu with rfl | rfl | rfl
    · rfl
    · rfl
    · exact engV_one _ _)
def kindsOK (l : List Int) : Bool := decide (1 ≤ l.length ∧ l.length ≤ 3) && l.all fun k => decide (1 ≤ k ∧ k ≤ 3)
def Fresh (l : List Int) (P : List Rep) : Prop := P.length = l.length ∧ ∀ i (h : i < P.length) (h2 : i < l.length), (P[i].k : Int) = l[i] ∧ P[i].ep = 1 ∧ P[i].eb.isSome = true
theorem GC.more {ρ : Nat → Nat} {w3 w9 w10 : World} {g : Nat} {P : List Rep} {rv v' : Value} {r : Rep} {gb : Nat} (h : GC ρ (fun _ => []) w3 g [] P (.slice none 0 0) rv []) (hr : r.eb = some gb) (hrk3 : r.k = 1 ∨ r.k = 2 ∨ r.k = 3) (hn : P.length < 3) (he : EngF r.k (fun q => ρ q = 5 + P.length) w3 gb [])
    (hrk : Rk 3 (fun b => At rv b ∨ w3.heap.size ≤ b) w9 v' (P.length + 1) (flatP P ++ flatP [r])) (hk9 : Keep (At rv) w3 w9) (hw : w10 = w9.setCell ⟨g, 1, none⟩ v') :
    GC (fun b => if b < w3.heap.size then ρ b else 4) (fun _ => []) w10 g [] (P ++ [r]) (.slice none 0 0) v' [] ∧ Keep (fun b => ρ b = 1 ∨ ρ b = 4) w3 w10 := by
  have hat : ∀ b, At rv b → ρ b = 4 ∧ b < w3.heap.size := fun b hb => h.r.at hb
  have hk1 : Keep (fun b => ρ b = 4) w3 w9 := hk9.into fun b _ hb => (hat b hb).1
  have hg := h.g
  have hz := h.z
  have hc9 : Bl w9 g 67 #[.slice none 0 0, rv] := (hk1.block g h.c.lt (by show ¬ ρ g = 4; omega)).trans h.c
  have hc10 := hc9.set12 1 v'
  simp only [List.setIfInBounds_toArray, List.set_cons_succ, List.set_cons_zero] at hc10
  rw [← hw] at hc10
  have hk2 : Keep (fun b => b = g) w9 w10 := by rw [hw]; exact keep_set12 (Keep.refl _ _) 1 _
  have hk : Keep (fun b => ρ b = 1 ∨ ρ b = 4) w3 w10 := (hk1.into fun _ _ h => .inr h).trans (hk2.into fun b _ hb => by subst hb; exact .inl hg)
  have h0 : w10.heap[0]? = w3.heap[0]? := hk.block 0 h.pos (by show ¬ (ρ 0 = 1 ∨ ρ 0 = 4); omega)
  refine ⟨⟨hc10, (if_pos h.c.lt).trans hg, (if_pos h.pos).trans hz, Rk.nil 3 _ _, fun x hx => by simp at hx, rfl, ?_, ?_, ?_, ?_, fun x hx => by simp at hx, Nat.zero_le _, h.mx.carry h0⟩, hk⟩
  · rw [List.length_append, flatP_append]
    refine (hrk.mono (G' := fun b => (if b < w3.heap.size then ρ b else 4) = 4) fun b hb _ => ?_).keep hk2 fun b hb ha hlt e => ?_
    · split
      · rename_i hlt
        exact hb.elim (fun h => (hat b h).1) fun h => by omega
      · rfl
    · subst e
      rw [if_pos h.c.lt] at hb
      omega
  · rw [List.length_append, List.length_singleton]; omega
  · intro x hx
    rcases List.mem_append.1 hx with hx | hx
    · exact h.k x hx
    · rw [List.mem_singleton.1 hx]; exact hrk3
  · intro i hi b hb
    rw [List.length_append, List.length_singleton] at hi
    have hcar : ∀ (k : Nat) (b : Nat) (es : List Ent), EngF k (fun q => ρ q = 5 + i) w3 b es → EngF k (fun q => (if q < w3.heap.size then ρ q else 4) = 5 + i) w10 b es := fun k b es hE =>
      (hE.mono (G := fun q => ρ q = 5 + i ∧ q < w3.heap.size) fun q hlt hq => ⟨hq, hlt⟩).carry hk.size h0 (fun q hlt hq => hk.block q hlt (by show ¬ (ρ q = 1 ∨ ρ q = 4); omega)) |>.mono fun q _ hq => (if_pos hq.2).trans hq.1
    rcases Nat.lt_or_ge i P.length with hlt | hge
    · rw [List.getElem_append_left hlt] at hb ⊢
      exact hcar _ _ _ (h.en i hlt b hb)
    · obtain rfl : i = P.length := by omega
      simp only [List.getElem_append_right (Nat.le_refl _), Nat.sub_self, List.getElem_cons_zero] at hb ⊢
      rw [hr] at hb
      cases hb
      exact hcar _ _ _ he
set_option maxHeartbeats 4000000 in
set_option maxRecDepth 100000 in
theorem newG_any {w : World} {v : Value} {l : List Int} (h : IntsAt w v l) (hm : MaxI w) :
    Calls Tryz.prog 8 #[v] w fun x w' => Below w.heap.size w w' ∧ ((kindsOK l = false ∧ x = .returned (.tuple #[.pointer none, .int .i64 1])) ∨
      (kindsOK l = true ∧ ∃ g ρ P, x = .returned (.tuple #[.pointer (some ⟨g, 0, none⟩), .int .i64 0]) ∧ GAt ρ w' g [] P ∧ (∀ b, b < w.heap.size → ρ b = 0) ∧ Fresh l P)) := by
  have hmx : Tryz.prog.follows .mixedOrders = true := by kernel_rfl
  obtain ⟨a, c, rfl, h63, hce⟩ := id h
  by_cases h0 : l.length = 0
  · have hl : l = [] := List.eq_nil_of_length_eq_zero h0
    subst hl
    have HB : Hid (Below w.heap.size w w) := Lib.hid (Below.refl _ _)
    clear h hce
    go_enter Tryz.func8, Tryz.ntmps8
    go_wp2_with fail
    exact bodyPost_ret (v := .tuple #[.pointer none, .int .i64 1]) (by simp [results, Tryz.results8, go_sem]) rfl ⟨HB.out, .inl ⟨rfl, rfl⟩⟩
  by_cases h3 : 3 < l.length
  · have HB : Hid (Below w.heap.size w w) := Lib.hid (Below.refl _ _)
    have HK : Hid (kindsOK l = false) := Lib.hid (by unfold kindsOK; rw [decide_eq_false (by omega), Bool.false_and])
    have h00 : ((l.length : Int) == 0) = false := by rw [beq_eq_false_iff_ne]; omega
    clear h hce
    go_enter Tryz.func8, Tryz.ntmps8
    go_wp2_with fail
    exact bodyPost_ret (v := .tuple #[.pointer none, .int .i64 1]) (by simp [results, Tryz.results8, go_sem]) rfl ⟨HB.out, .inl ⟨HK.out, rfl⟩⟩
  have hce2 := hce.resolve_left fun e => h0 (by rw [e]; rfl)
  clear hce
  obtain ⟨b, off, rfl, hblt, hce⟩ := hce2
  have h00 : ((l.length : Int) == 0) = false := by rw [beq_eq_false_iff_ne]; omega
  obtain ⟨w1, hw1⟩ : ∃ w1, w1 = w.alloc (.cells #[.slice none 0 0, .slice none 0 0] 67) := ⟨_, rfl⟩
  have hb1 : Below w.heap.size w w1 := by rw [hw1]; exact (Below.refl _ w).alloc (Nat.le_refl _) _
  have hk1 : Bl w1 w.heap.size 67 #[.slice none 0 0, .slice none 0 0] := by rw [hw1]; exact Bl.new w _ _
  have hs1 : w1.heap.size = w.heap.size + 1 := by rw [hw1]; simp
  obtain ⟨G, hG⟩ : ∃ G, G = w.heap.size := ⟨_, rfl⟩
  have HG0 : Hid (GC (fun b => if b = G then 1 else 0) (fun _ => []) w1 G [] [] (.slice none 0 0) (.slice none 0 0) []) := Lib.hid ⟨by rw [hG]; exact hk1, if_pos rfl, if_neg (by have := hm.pos; omega), Rk.nil 3 _ _, fun x hx => by simp at hx, rfl, Rk.nil 3 _ _, Nat.zero_le _, fun x hx => by simp at hx, fun i hi => by simp at hi, fun x hx => by simp at hx, Nat.zero_le _, hm.below1 hb1⟩
  have HL3 : Hid (l.length ≤ 3) := Lib.hid (by omega)
  have HL1 : Hid (1 ≤ l.length) := Lib.hid (by omega)
  have HB1 := Lib.hid hb1
  have HW1 := Lib.hid hw1.symm
  have HCE := Lib.hid hce
  have HBL := Lib.hid hblt
  have HGE := Lib.hid hG
  have HS1 := Lib.hid hs1
  clear h hce hm hb1 hk1 hw1 hG hs1
  go_enter Tryz.func8, Tryz.ntmps8
  go_upto_region 4 with fail
  rw [HW1.out, ← HGE.out]
  clear h0 h3 hblt
  go_wp2_with fail
  go_loopw [20] (fun vi wr => ∃ (i : Nat) (ρ : Nat → Nat) (P : List Rep) (rv : Value), vi = .int .i64 i ∧ i ≤ l.length ∧ P.length = i ∧ GC ρ (fun _ => []) wr G [] P (.slice none 0 0) rv [] ∧ (∀ b, b < w.heap.size → ρ b = 0) ∧ Below w.heap.size w wr ∧ (∀ j (_ : j < P.length) (_ : j < l.length), (P[j].k : Int) = l[j] ∧ P[j].ep = 1 ∧ P[j].eb.isSome = true) ∧ ∀ j (_ : j < i) (_ : j < l.length), 1 ≤ l[j] ∧ l[j] ≤ 3) (fun vi _ => l.length - (intOf vi).toNat)
  case atStart => exact ⟨0, _, [], _, rfl, Nat.zero_le _, rfl, HG0.out, fun b hb => if_neg (by rw [HGE.out]; omega), HB1.out, fun j hj => by simp at hj, fun j hj => by omega⟩
  case round =>
    obtain ⟨i, ρ, P, rv, rfl, hi, hpi, hgc, hz, hb, hfr, hin⟩ := hrel
    have HGC := Lib.hid hgc
    have HZ := Lib.hid hz
    have HB := Lib.hid hb
    have HFR := Lib.hid hfr
    have HIN := Lib.hid hin
    have HPI := Lib.hid hpi
    clear hgc hz hfr hin hpi
    by_cases hlt : i < l.length
    · have x0 : wr.cell? ⟨b, off + i, none⟩ = some (.int .i64 l[i]) := (World.cell?_of_block (a := ⟨b, off + i, none⟩) (hb.block b HBL.out)).trans (HCE.out i hlt)
      clear hb
      by_cases hk : 1 ≤ l[i] ∧ l[i] ≤ 3
      · obtain ⟨k, hkk⟩ : ∃ k : Nat, l[i] = (k : Int) := ⟨l[i].toNat, by omega⟩
        have hk3 : k = 1 ∨ k = 2 ∨ k = 3 := by omega
        have HMK := Lib.hid (make_yes hk3 wr HGC.out.mx)
        have HK3 := Lib.hid hk3
        have HKK := Lib.hid hkk
        rw [hkk] at x0
        clear hk hk3 hkk
        go_wp2_with fail
        refine HMK.out.mono ?_
        rintro x w3 ⟨gb, rfl, heng, hl3⟩
        obtain ⟨tk, htk⟩ : ∃ tk, tk = tyK k := ⟨_, rfl⟩
        have hev : engV k (some gb) = .iface tk (.pointer (some ⟨gb, 0, none⟩)) := by rw [htk]; rfl
        have HSRC : Hid (Src Tryz.prog 3 65 (.slice (some ⟨w3.heap.size, 0, none⟩) 1 1) 1 (flatP [⟨k, 1, some gb⟩]) (w3.alloc (.cells #[.int .i64 (k : Int), .int .i64 1, .iface tk (.pointer (some ⟨gb, 0, none⟩))] 69))) := Lib.hid (by rw [← hev]; exact src_rep (r := ⟨k, 1, some gb⟩))
        have hg3 := (HGC.out.conv (ρ' := fun b => if b < wr.heap.size then ρ b else 5 + P.length) fun b hb => if_pos hb).below (lay_below hl3)
        have hen3 : EngF k (fun q => (if q < wr.heap.size then ρ q else 5 + P.length) = 5 + P.length) w3 gb [] := heng.mono fun q _ hq => if_neg (by omega)
        have hag : ∀ b, b < w.heap.size → (if b < wr.heap.size then ρ b else 5 + P.length) = 0 := fun b hb => (if_pos (Nat.lt_of_lt_of_le hb HB.out.size)).trans (HZ.out b hb)
        obtain ⟨ρ1, hρ1⟩ : ∃ ρ1 : Nat → Nat, ρ1 = fun b => if b < wr.heap.size then ρ b else 5 + P.length := ⟨_, rfl⟩
        rw [← hρ1] at hg3
        simp only [← show ∀ b, ρ1 b = if b < wr.heap.size then ρ b else 5 + P.length from fun b => by rw [hρ1]] at hen3 hag
        have HG3 := Lib.hid hg3
        have HEN3 := Lib.hid hen3
        have HAG := Lib.hid hag
        have HB3 := Lib.hid (HB.out.trans ((lay_below hl3).mono HB.out.size))
        have c1 := hg3.c.cell 1
        have f1 := hg3.c.frozen 1
        simp only [List.getElem?_toArray, List.getElem?_cons_succ, List.getElem?_cons_zero] at c1
        obtain ⟨ra, rc, hrv⟩ := hg3.r.shape
        obtain ⟨iP, zP, EP⟩ := elemP
        rw [hev]
        clear heng hl3 hg3 hev htk HMK hen3 hag hρ1
        subst hrv
        go_upto_region 10 with fail
        go_wp2_with (at_builtin; refine wpList_append_rk EP _ rfl _ _ 65 rfl (G := fun b => ρ1 b = 4 ∨ w3.heap.size ≤ b) rfl ((HG3.out.r.mono fun b hb _ => .inl hb).alloc _) ?c1 (.slice (some ⟨w3.heap.size, 0, none⟩) 1 1) 1 (flatP [⟨k, 1, some gb⟩]) rfl HSRC.out ?c3 ?c4 ?_)
        case c1 =>
          intro k hk
          simp at hk
          omega
        case c3 => have := HPI.out; have := HL3.out; omega
        case c4 => have := HPI.out; have := HL3.out; omega
        intro v' w9 hrk9 hk9
        obtain ⟨va, vc, rfl⟩ := hrk9.shape
        have hba : Below w3.heap.size w3 (w3.alloc (.cells #[.int .i64 (k : Int), .int .i64 1, .iface tk (.pointer (some ⟨gb, 0, none⟩))] 69)) := (Below.refl _ _).alloc (Nat.le_refl _) _
        have hga := HG3.out.below hba
        obtain ⟨w10, hw10⟩ : ∃ w10, w10 = w9.setCell ⟨G, 1, none⟩ (.slice va (P.length + 1) vc) := ⟨_, rfl⟩
        obtain ⟨hg10, hk10⟩ := hga.more (r := ⟨k, 1, some gb⟩) (gb := gb) rfl HK3.out (by have := HPI.out; have := HL3.out; omega) (HEN3.out.below HG3.out.pos hba) (hrk9.mono fun b hb _ => hb.2.imp id fun h => by simpa using h) hk9 hw10
        have hgn : ¬ At (.slice ra P.length rc) G := fun h => by have := (hga.r.at h).1; have := hga.g; omega
        have hc9 := (hk9.block G hga.c.lt hgn).trans hga.c
        have k1 := Bl.cell hc9 1
        have f9 := Bl.frozen hc9 1
        simp only [List.getElem?_toArray, List.getElem?_cons_succ, List.getElem?_cons_zero] at k1
        have HG10 := Lib.hid hg10
        have HW10 := Lib.hid hw10.symm
        have hb10 : Below w.heap.size w w10 := (HB3.out.trans (hba.mono HB3.out.size)).trans ⟨hk10.os, hk10.tape, hk10.output, hk10.size, fun q hq => hk10.block q (Nat.lt_of_lt_of_le hq (Nat.le_trans HB3.out.size hba.size)) fun h => by have := HAG.out q hq; rcases h with h | h <;> omega⟩
        have HB10 := Lib.hid hb10
        have HSZ : Hid (w.heap.size ≤ (w3.alloc (.cells #[.int .i64 (k : Int), .int .i64 1, .iface tk (.pointer (some ⟨gb, 0, none⟩))] 69)).heap.size) := Lib.hid (Nat.le_trans HB3.out.size hba.size)
        clear hrk9 hk9 hba hga hg10 hk10 hgn hc9 hb10 hw10 c1 f1 x0
        go_upto_region 11 with fail
        rw [HW10.out]
        clear k1 f9
        go_wp2
        go_roundw
        case rel =>
          have hpi := HPI.out
          refine ⟨i + 1, _, P ++ [⟨k, 1, some gb⟩], _, by go_num, by omega, by simp [hpi], HG10.out, fun b hb => (if_pos (Nat.lt_of_lt_of_le hb HSZ.out)).trans (HAG.out b hb), HB10.out, fun j hj hj2 => ?_, fun j hj hj2 => ?_⟩
          · rw [List.length_append, List.length_singleton] at hj
            rcases Nat.lt_or_ge j P.length with hlt2 | hge
            · rw [List.getElem_append_left hlt2]
              exact HFR.out j hlt2 hj2
            · obtain rfl : j = P.length := by omega
              simp only [List.getElem_append_right (Nat.le_refl _), Nat.sub_self, List.getElem_cons_zero]
              refine ⟨?_, by simp, by simp⟩
              rw [← HKK.out]
              congr 1
              exact hpi.symm
          · rcases Nat.lt_or_ge j i with hlt2 | hge
            · exact HIN.out j hlt2 hj2
            · obtain rfl : j = i := by omega
              have := HKK.out
              have := HK3.out
              omega
        case measure => simp [intOf]; omega
      · have HMK := Lib.hid (make_no hk wr)
        have HKF : Hid (kindsOK l = false) := Lib.hid (by
          unfold kindsOK
          rw [Bool.and_eq_false_iff]
          refine .inr (Bool.eq_false_iff.2 fun h => hk ?_)
          exact of_decide_eq_true (List.all_eq_true.1 h _ (List.getElem_mem hlt)))
        clear hk
        go_wp2_with (go_at_call 18; refine HMK.out.mono ?_; rintro x w3 ⟨rfl, rfl⟩)
        exact bodyPost_ret (v := .tuple #[.pointer none, .int .i64 1]) (by simp [results, Tryz.results8, go_sem]) rfl ⟨HB.out, .inl ⟨HKF.out, rfl⟩⟩
    · obtain rfl : i = l.length := by omega
      have HKO : Hid (kindsOK l = true) := Lib.hid (by
        unfold kindsOK
        rw [Bool.and_eq_true, decide_eq_true_eq, List.all_eq_true]
        refine ⟨⟨HL1.out, HL3.out⟩, fun x hx => ?_⟩
        obtain ⟨j, hj, rfl⟩ := List.mem_iff_getElem.1 hx
        exact decide_eq_true (HIN.out j hj hj))
      clear hb
      go_wp2_with fail
      exact bodyPost_ret (v := .tuple #[.pointer (some ⟨G, 0, none⟩), .int .i64 0]) (by simp [results, Tryz.results8, go_sem]) rfl ⟨HB.out, .inr ⟨HKO.out, G, ρ, P, rfl, ⟨_, _, _, HGC.out⟩, HZ.out, HPI.out, HFR.out⟩⟩
end Go.Proofs.YtoobjjpheegmdaaGreat.E4
