/-
  Fo14.
-/
import Derived.Test.YtoobjjpheegmdaaGreatJ24
import Derived.Test.YtoobjjpheegmdaaGreatJ26
import Derived.Test.YtoobjjpheegmdaaGreatJ06
import Derived.Maps.RangeWalk
import Derived.Sort.KeysCollected
namespace Go.Proofs.YtoobjjpheegmdaaGreat.E4
open Go.RowKit Go Go.Maps
open Go.Sort (grow)
def asksM (src til : Int) (ms : List Mt) (e : Ent) : Bool := inT src til e && ms.all (keepsM e)
theorem keepsM_labs {x y : Ent} (h : x.labs = y.labs) : keepsM x = keepsM y := by
  funext m
  unfold keepsM
  rw [h]
theorem left_strike {left : Lit → Bool} {s t : ByteArray} : (left (klit t) && !(klit t).sameKey (klit s)) = false ↔ left (klit t) = false ∨ t = s := by
  rw [Bool.and_eq_false_iff, Bool.not_eq_false', WideAt.sameKey_iff (by unfold klit WideAt.IsKeyLit; trivial)]
  constructor
  · rintro (h | h)
    · exact .inl h
    · exact .inr (Classical.byContradiction fun hne => klit_ne hne h)
  · rintro (h | h)
    · exact .inl h
    · exact .inr (by rw [h])
theorem ranges_carry {P : Program} {k : TypeId} {R : Value → Option (DataW Value × List MemPlace)} {w w' : World} {b r n : Nat} {D : DataW Value} {left : Lit → Bool} {cnt : Nat} (h : w.ranges P k R b r n D left cnt) (hb : w'.heap[b]? = w.heap[b]?) (hr : w'.heap[r]? = w.heap[r]?) : w'.ranges P k R b r n D left cnt := by
  obtain ⟨es, clock, since, seen, c0, h1, F, hs, hD, h2, rest⟩ := h
  exact ⟨es, clock, since, seen, c0, hb.trans h1, F, hs, hD, hr.trans h2, rest⟩
theorem key_of {s : ByteArray} {kl : Lit} (h : keyOf Tryz.prog 9 (.string s) = some kl) : kl = klit s ∧ s.size ≤ maxLen := by
  obtain ⟨x, ex, rfl, hl⟩ := Maps.keyOf_str Tryz.underlying9 h
  unfold encStr at ex
  injection ex with ex
  subst ex
  refine ⟨?_, by show x.toArray.size ≤ _; simpa using hl⟩
  unfold klit
  simp
theorem at_key {D : DataW Value} {f : ByteArray → Option Fl} (hD : ∀ s, s.size ≤ maxLen → ∀ z, D.atKey (klit s) z = match (f s).map Fl.val with | some v => .held v | none => z) {s : ByteArray} (hs : s.size ≤ maxLen) {c : Value} (h : ∀ z, D.atKey (klit s) z = .held c) : ∃ t, f s = some t ∧ c = t.val := by
  cases hf : f s with
  | none =>
    have h1 := hD s hs (.held (.bool true))
    have h2 := hD s hs (.held (.bool false))
    rw [h] at h1 h2
    rw [hf] at h1 h2
    simp only [Option.map_none] at h1 h2
    rw [h1] at h2
    cases h2
  | some t =>
    have h1 := hD s hs (.held (.bool true))
    rw [h, hf] at h1
    simp only [Option.map_some] at h1
    injection h1 with h1
    exact ⟨t, rfl, h1⟩
theorem in_flow {κ : Nat → Nat} {ω : Nat → ByteArray} {w : World} {B gb mb n : Nat} {f : ByteArray → Option Fl} {es : List Ent} (h : EngC4 κ ω w B gb mb n f es) {s : ByteArray} {t : Fl} (hs : f s = some t) {x : Ent} : x ∈ flatC t.CH ↔ x ∈ es ∧ keyL x.labs = s := by
  obtain ⟨h1, _, _, h4⟩ := h.r s t hs
  constructor
  · intro hx
    have hk : keyL x.labs = s := by rw [h4.m x hx, ← h1]
    exact ⟨(h.e x).2 ⟨t, by rw [hk]; exact hs, hx⟩, hk⟩
  · rintro ⟨hx, hk⟩
    obtain ⟨t', ht', hm⟩ := (h.e x).1 hx
    rw [hk, hs] at ht'
    injection ht' with ht'
    rw [ht']; exact hm
theorem asks_flow {κ : Nat → Nat} {ω : Nat → ByteArray} {w : World} {B gb mb n : Nat} {f : ByteArray → Option Fl} {es : List Ent} (h : EngC4 κ ω w B gb mb n f es) {s : ByteArray} {t : Fl} (hs : f s = some t) {src til : Int} {ms : List Mt} {x : Ent} (hx : x ∈ flatC t.CH) : asksM src til ms x = (inT src til x && ms.all (keepsM ⟨0, t.ls, ⟨#[]⟩⟩)) := by
  obtain ⟨h1, _, _, h4⟩ := h.r s t hs
  unfold asksM
  rw [keepsM_labs (x := x) (y := ⟨0, t.ls, ⟨#[]⟩⟩) (h4.m x hx)]
set_option maxHeartbeats 8000000 in
set_option maxRecDepth 100000 in
theorem found4_any {w : World} {B gb : Nat} {es : List Ent} {mv : Value} {src til : Int} {ms : List Mt} (h : EngAt4 w B gb es) (hm : MsAt w mv ms) (hn : es.length ≤ 1000) :
    Calls Tryz.prog 149 #[.pointer (some ⟨gb, 0, none⟩), .agg #[.int .i64 src, .int .i64 til, mv]] w fun x w' => ∃ v', x = .returned v' ∧ ∃ l : List Ent, EntsAt (fun b => w.heap.size ≤ b) (fun b => b < w.heap.size) w' v' l ∧ (∀ x, x ∈ l ↔ x ∈ es.filter (asksM src til ms)) ∧ l.Nodup ∧ Below w.heap.size w w' := by
  have hmx : Tryz.prog.follows .mixedOrders = true := by kernel_rfl
  obtain ⟨i24, z24, E24⟩ := elem24
  obtain ⟨κ, ω, mb, n, f, hE, hnn⟩ := id h
  obtain ⟨D, hown, hD⟩ := id hE.m
  obtain ⟨ma, mc, rfl, hm63, _⟩ := id hm
  obtain ⟨w1, hw1⟩ : ∃ w1, w1 = w.alloc (.cells #[.int .i64 src, .int .i64 til, .slice ma ms.length mc] 76) := ⟨_, rfl⟩
  have hl1 : Lay w w1 := by rw [hw1]; exact (Keep.refl _ w).alloc _
  have hk1 : Bl w1 w.heap.size 76 #[.int .i64 src, .int .i64 til, .slice ma ms.length mc] := by rw [hw1]; exact Bl.new w 76 _
  have hE1 := hE.below (lay_below hl1)
  have hown1 : w1.ownsMap Tryz.prog 9 heldR mb n D := by
    obtain ⟨es', clock, h0, h1⟩ := hown
    exact ⟨es', clock, (Lay.block hl1 hE.m.lt).trans h0, h1⟩
  have c0 := hE1.c.cell 0
  simp only [List.getElem?_toArray, List.getElem?_cons_succ, List.getElem?_cons_zero] at c0
  have HW1 := Lib.hid hw1.symm
  have HL1 := Lib.hid hl1
  have HK1 := Lib.hid hk1
  have HE := Lib.hid hE
  have HM := Lib.hid hm
  have HD := Lib.hid hD
  clear h hE hE1 hown hm hl1 hk1 hw1 hD
  go_enter Tryz.func149, Tryz.ntmps149
  go_upto_region 1 with fail
  rw [HW1.out]
  go_wp2_with (at_range; refine wpList_range_own _ rfl _ 97 rfl 9 207 (string_keyed Tryz.underlying9) Tryz.underlying97 heldR mb n D rfl hown1 ?_; intro w0 hrg0 hg0 hs0)
  go_loopw [5] (fun vl wr => ∃ (left : Lit → Bool) (cnt : Nat) (S : List (Value × Ent)), wr.ranges Tryz.prog 9 heldR mb w1.heap.size n D left cnt ∧ Rk 3 (fun b => w1.heap.size < b) wr vl S.length (flatR S) ∧ RawL (fun b => b < w.heap.size) wr S ∧ (S.map Prod.snd).Nodup ∧ (∀ x, x ∈ S.map Prod.snd ↔ x ∈ es ∧ asksM src til ms x = true ∧ left (klit (keyL x.labs)) = false) ∧ Below w1.heap.size w1 wr)
    (fun _ wr => wr.rangeLeft mb w1.heap.size)
  case atStart =>
    refine ⟨_, _, [], hrg0, Rk.nil 3 _ _, fun x hx => (by cases hx), List.nodup_nil, fun x => ⟨fun h => (by cases h), fun ⟨h1, _, h3⟩ => ?_⟩, (Below.refl _ _).grown hg0 (Nat.le_refl _) (fun j hj => by cases hj)⟩
    obtain ⟨t, ht, _⟩ := (HE.out.e x).1 h1
    obtain ⟨hk, hl, _⟩ := HE.out.r _ t ht
    have h4 := held_has HD.out (s := keyL x.labs) (by rw [hk]; exact keyL_size hl)
    rw [ht] at h4
    rw [h3] at h4
    cases h4
  case round =>
    obtain ⟨left, cnt, S, hrg, hsk, hsl, hnd, hmem, hb⟩ := hrel
    have HSK := Lib.hid hsk
    have HSL := Lib.hid hsl
    have HND := Lib.hid hnd
    have HMEM := Lib.hid hmem
    have HB := Lib.hid hb
    clear hsk hsl hnd hmem hb
    go_wp2_with (at_next; refine wpList_next_ranges _ rfl _ rfl 9 (string_keyed Tryz.underlying9) heldR (fun s : ByteArray => Value.string s) (fun v : Value => v) (fun key kl hk => by obtain ⟨x, hx, _⟩ := Maps.keyOf_str Tryz.underlying9 hk; exact ⟨⟨x.toArray⟩, hx⟩) (fun v y _ => ⟨v, rfl⟩) mb w1.heap.size n D left cnt rfl hrg ?_ ?_)
    · intro hc0 hl0
      go_wp2_with fail
      go_ret
      have hents := HSK.out.ents HSL.out
      have hs1 := HL1.out.size
      refine ⟨_, rfl, S.map Prod.snd, hents.mono (fun b hb _ => by omega) (fun b hb _ => hb), fun x => ?_, HND.out, below_mid (lay_below HL1.out) HB.out⟩
      rw [HMEM.out, List.mem_filter, hl0]
      simp
    · intro s c kl yd yp w2 cnt2 hkey hlk hv hat hrg2 hlt hg2 hs2 hen
      obtain ⟨rfl, hss⟩ := key_of hkey
      unfold heldR at hv
      simp only [Option.some.injEq, Prod.mk.injEq] at hv
      obtain ⟨rfl, rfl⟩ := hv
      obtain ⟨t, ht, rfl⟩ := at_key HD.out hss hat
      have hrlt := hrg.lt
      have hb12 : Below w1.heap.size w1 w2 := HB.out.grown hg2 HB.out.size (fun j hj => by cases hj; exact Nat.le_refl _)
      have hb02 := below_mid (lay_below HL1.out) hb12
      obtain ⟨hks, hlm, hc0, hfl⟩ := HE.out.r s t ht
      have hflen := HE.out.fl_len ht
      obtain ⟨a1, c1, hlv, _⟩ := id hfl.l
      obtain ⟨a2, c2, hcv⟩ := hfl.c.shape
      have hfl2 : FlowAt (fun b => B ≤ b ∧ κ b = 4 ∧ ω b = s) (fun b => (B ≤ b ∧ κ b = 3) ∧ b < w.heap.size) w2 t.lv t.cv t.ls t.CH := (hfl.mono (fun _ h _ => h) fun b h hlt => ⟨h, hlt⟩).below hb02
      obtain ⟨w3, hw3⟩ : ∃ w3, w3 = w2.alloc (.cells #[t.lv, t.cv] 207) := ⟨_, rfl⟩
      have hl3 : Lay w2 w3 := by rw [hw3]; exact (Keep.refl _ _).alloc _
      have hfb3 : Bl w3 w2.heap.size 207 #[t.lv, t.cv] := by rw [hw3]; exact Bl.new w2 207 _
      have hb03 := below_mid hb02 (lay_below hl3)
      have hkq := HK1.out.below (below_mid hb12 (lay_below hl3))
      have HLA := Lib.hid (labels_any ms (.slice ma ms.length mc) ⟨0, t.ls, ⟨#[]⟩⟩ t.lv w3 (MsAt.below9 HM.out hb03) ((hfl2.l.lay hl3).mono fun _ _ _ => trivial))
      have hsk2 : Rk 3 (fun b => w1.heap.size < b) w2 u5 S.length (flatR S) := HSK.out.carry hg2.size fun b hg _ hlt => hg2.block b hlt fun e => by injection e with e; omega
      have hsl2 : RawL (fun b => b < w.heap.size) w2 S := fun x hx => (HSL.out x hx).carry hg2.size fun b hg hlt => hg2.block b hlt fun e => by injection e with e; have := HL1.out.size; omega
      have d0 := hfb3.cell 0
      have q0 := hkq.cell 0
      have q1 := hkq.cell 1
      have q2 := hkq.cell 2
      simp only [List.getElem?_toArray, List.getElem?_cons_succ, List.getElem?_cons_zero] at d0 q0 q1 q2
      have HFL := Lib.hid (hfl2.lay hl3)
      have HRG := Lib.hid (And.intro hrg2 (And.intro hrlt (And.intro hlk hlt)))
      have HSK2 := Lib.hid hsk2
      have HSL2 := Lib.hid hsl2
      have HT := Lib.hid (And.intro ht (And.intro hks (And.intro hc0 hflen)))
      have HFB3 := Lib.hid hfb3
      have HB12 := Lib.hid hb12
      have HKQ := Lib.hid hkq
      have HL3 := Lib.hid hl3
      have HLV := Lib.hid (And.intro hlv hcv)
      have HLK := Lib.hid hlk
      have HLEFT := Lib.hid (And.intro hrg.left_eq (And.intro hrg2.left_eq hlt))
      simp only [Ent.val, List.length_nil] at HLA
      unfold Fl.val at hen
      rw [hlv, hcv] at hen hw3
      rw [hlv] at HLA d0
      have HW3 := Lib.hid hw3.symm
      clear hkey hlk hat hrg2 hlt hg2 hs2 hss ht hrlt hb12 hb02 hks hlm hc0 hfl hflen hlv hcv hfl2 hl3 hfb3 hb03 hkq hsk2 hsl2 hw3 HSK HSL hrg
      go_upto_region 5 with fail
      rw [HW3.out]
      clear hen
      go_wp2_with fail
      refine HLA.out.mono ?_
      rintro x w4 ⟨rfl, hb34⟩
      have hl02 := below_mid (lay_below HL1.out) HB12.out
      have hb24 : Below w2.heap.size w2 w4 := below_mid (lay_below HL3.out) hb34
      have hrg4 := ranges_carry HRG.out.1 (hb24.block mb (by have := HE.out.m.lt; have := HL1.out.size; have := HB12.out.size; omega)) (hb24.block _ HRG.out.1.lt)
      have hsk4 := HSK2.out.carry hb24.size fun b _ _ hlt => hb24.block b hlt
      have hsl4 : RawL (fun b => b < w.heap.size) w4 S := fun x hx => (HSL2.out x hx).carry hb24.size fun b _ hlt => hb24.block b hlt
      have HRG4 := Lib.hid hrg4
      have HSK4 := Lib.hid hsk4
      have HSL4 := Lib.hid hsl4
      have HB14 := Lib.hid (HB12.out.trans (hb24.mono HB12.out.size))
      have hfl4 := HFL.out.below hb34
      have hfb4 := HFB3.out.below hb34
      have hk4 := HKQ.out.below hb34
      have p0 := hk4.cell 0
      have p1 := hk4.cell 1
      simp only [List.getElem?_toArray, List.getElem?_cons_succ, List.getElem?_cons_zero] at p0 p1
      clear hb24 hrg4 hsk4 hsl4 hk4 hl02 d0 q0 q1 q2 HSK2 HSL2 HFB3 HFL HKQ HW3 HLA HRG HL3
      cases hall : ms.all (keepsM ⟨0, t.ls, ⟨#[]⟩⟩) with
      | false =>
        have HMEM2 : Hid (∀ x, x ∈ S.map Prod.snd ↔ x ∈ es ∧ asksM src til ms x = true ∧ (left (klit (keyL x.labs)) && !(klit (keyL x.labs)).sameKey (klit s)) = false) := Lib.hid fun x => by
          rw [HMEM.out, left_strike]
          refine and_congr_right fun hx => and_congr_right fun ha => ⟨.inl, fun h => h.elim id fun hk => ?_⟩
          have h1 := asks_flow HE.out HT.out.1 (src := src) (til := til) (ms := ms) ((in_flow HE.out HT.out.1).2 ⟨hx, hk⟩)
          rw [hall, Bool.and_false, ha] at h1
          cases h1
        clear hfl4 hfb4 p0 p1
        go_wp2_with fail
        go_roundw
        case rel => exact ⟨_, cnt2, S, HRG4.out, HSK4.out, HSL4.out, HND.out, HMEM2.out, HB14.out⟩
        case measure => rw [HRG4.out.left_eq, HLEFT.out.1]; exact HLEFT.out.2.2
      | true =>
        have HBT := Lib.hid (between_any (src := src) (til := til) hfb4 hfl4 HT.out.2.2.1 (fun b hb => by have := hb.2; have := HL1.out.size; have := HB14.out.size; omega) (by have := HT.out.2.2.2; omega))
        have hlen : S.length ≤ es.length := by
          have h1 := sub_len HND.out (m := es) fun x hx => ((HMEM.out x).1 hx).1
          rwa [List.length_map] at h1
        clear hfl4 hfb4
        go_wp2_with fail
        refine HBT.out.mono ?_
        rintro x w5 ⟨v', rfl, S2, hrk2, hraw2, hmap2, hl45⟩
        have hs5 := hl45.size
        have hs4 := HB14.out.size
        have h2len : S2.length ≤ es.length := by
          have h1 : (S2.map Prod.snd).length ≤ (flatC t.CH).length := by rw [hmap2]; exact List.length_filter_le _ _
          rw [List.length_map] at h1
          have := HT.out.2.2.2
          omega
        have hsk5 := HSK4.out.lay hl45
        have hsl5 := HSL4.out.lay hl45
        have HSRC := Lib.hid (Rk.src Tryz.underlying43 hrk2 (flatR_one hraw2))
        have HSK5 := Lib.hid hsk5
        have HSL5 := Lib.hid hsl5
        have HRAW2 := Lib.hid hraw2
        have HMAP2 := Lib.hid hmap2
        have HL45 := Lib.hid hl45
        have HATU : Hid (∀ b, At u5 b → w1.heap.size < b) := Lib.hid fun b hb => (hsk5.at hb).1
        clear hrk2 hraw2 hmap2 hsk5 hsl5 hl45 HBT HSK4 HSL4 p0 p1
        go_wp2_with (at_builtin; refine wpList_append_rk E24 _ rfl _ _ 43 rfl (G := fun b => w1.heap.size < b) rfl HSK5.out ?c1 _ S2.length (flatR S2) rfl HSRC.out ?c3 ?c4 ?_)
        case c1 => intro b hb; have := HRG4.out.lt; omega
        case c3 => omega
        case c4 => omega
        intro v6 w6 hrk6 hk6
        have HB6 : Hid (Below w1.heap.size w1 w6) := Lib.hid (by
          have h1 : Below w1.heap.size w1 w5 := HB14.out.trans ((lay_below HL45.out).mono hs4)
          exact keep_below HSK5.out (fun b hb => Nat.le_of_lt hb) h1 hk6)
        have HRG6 := Lib.hid (ranges_carry HRG4.out (w' := w6) ((hk6.block mb (by have := HE.out.m.lt; have := HL1.out.size; omega) (fun ha => by have := HATU.out mb ha; have := HE.out.m.lt; have := HL1.out.size; omega)).trans (Lay.block HL45.out (by have := HE.out.m.lt; have := HL1.out.size; omega))) ((hk6.block w1.heap.size (by have := HRG4.out.lt; omega) (fun ha => by have := HATU.out _ ha; omega)).trans (Lay.block HL45.out HRG4.out.lt)))
        have HRK6 : Hid (Rk 3 (fun b => w1.heap.size < b) w6 v6 (S ++ S2).length (flatR (S ++ S2))) := Lib.hid (by
          have := hrk6.mono (G' := fun b => w1.heap.size < b) fun b hb _ => hb.1
          rw [flatR_append, List.length_append]
          exact this)
        have HRAW6 : Hid (RawL (fun b => b < w.heap.size) w6 (S ++ S2)) := Lib.hid fun z hz => by
          have hs1 := HL1.out.size
          rcases List.mem_append.1 hz with hz | hz
          · exact (HSL5.out z hz).keep hk6 fun b hb _ h => by
              have h2 := HATU.out b h
              omega
          · exact ((HRAW2.out z hz).mono fun b hb _ => hb.2).keep hk6 fun b hb _ h => by
              have h2 := HATU.out b h
              omega
        have HSN : Hid ((S ++ S2).map Prod.snd = S.map Prod.snd ++ (flatC t.CH).filter (inT src til)) := Lib.hid (by rw [List.map_append, HMAP2.out])
        have HND6 : Hid (((S ++ S2).map Prod.snd).Nodup) := Lib.hid (by
          rw [HSN.out, List.nodup_append]
          refine ⟨HND.out, (strict_nodup (HE.out.r _ _ HT.out.1).2.2.2.s).sublist List.filter_sublist, fun x hx y hy hxy => ?_⟩
          subst hxy
          have h1 := ((HMEM.out x).1 hx).2.2
          have h2 := ((in_flow HE.out HT.out.1).1 (List.mem_filter.1 hy).1).2
          rw [h2, HLK.out] at h1
          cases h1)
        have HMEM6 : Hid (∀ x, x ∈ (S ++ S2).map Prod.snd ↔ x ∈ es ∧ asksM src til ms x = true ∧ (left (klit (keyL x.labs)) && !(klit (keyL x.labs)).sameKey (klit s)) = false) := Lib.hid fun x => by
          rw [HSN.out, List.mem_append, HMEM.out, List.mem_filter, left_strike]
          constructor
          · rintro (⟨h1, h2, h3⟩ | ⟨h1, h2⟩)
            · exact ⟨h1, h2, .inl h3⟩
            · have h3 := (in_flow HE.out HT.out.1).1 h1
              exact ⟨h3.1, by rw [asks_flow HE.out HT.out.1 h1, hall, h2]; rfl, .inr h3.2⟩
          · rintro ⟨h1, h2, h3 | h3⟩
            · exact .inl ⟨h1, h2, h3⟩
            · have h4 := (in_flow HE.out HT.out.1).2 ⟨h1, h3⟩
              rw [asks_flow HE.out HT.out.1 h4, hall, Bool.and_true] at h2
              exact .inr ⟨h4, h2⟩
        clear hrk6 hk6
        go_wp2_with fail
        go_roundw
        case rel => exact ⟨_, cnt2, S ++ S2, HRG6.out, HRK6.out, HRAW6.out, HND6.out, HMEM6.out, HB6.out⟩
        case measure => rw [HRG6.out.left_eq, HLEFT.out.1]; exact HLEFT.out.2.2
end Go.Proofs.YtoobjjpheegmdaaGreat.E4
