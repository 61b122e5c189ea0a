/-
  Fo13, Cw12.
-/
import Derived.Test.YtoobjjpheegmdaaGreatK13
import Derived.Test.YtoobjjpheegmdaaGreatK18
import Derived.Test.YtoobjjpheegmdaaGreatK11
import Derived.Test.YtoobjjpheegmdaaGreatK06
namespace Go.Proofs.YtoobjjpheegmdaaGreat.E4
open Go.RowKit Go
open Go.Sort (grow)
def asksE (src til : Int) (rows : List (List ByteArray)) (e : Ent) : Bool := decide (src ≤ e.tm) && decide (e.tm ≤ til) && rows.all fun r => r.any (H3.hasB e.line)
set_option maxHeartbeats 8000000 in
set_option maxRecDepth 100000 in
theorem found3_any {w : World} {B gb : Nat} {es : List Ent} {av : Value} {src til : Int} {rows : List (List ByteArray)} (h : EngAt3 w B gb es) (hr : TextsAt w av rows) (hw : ∀ l ∈ rows, ∀ s ∈ l, s.size ≤ 100000) (hn : es.length ≤ 1000) :
    Calls Tryz.prog 78 #[.pointer (some ⟨gb, 0, none⟩), .agg #[.int .i64 src, .int .i64 til, av]] w fun x w' => ∃ v', x = .returned v' ∧ EntsAt (fun b => w.heap.size ≤ b) (fun b => b < w.heap.size) w' v' (es.filter (asksE src til rows)) ∧ Below w.heap.size w w' := by
  have hmx : Tryz.prog.follows .mixedOrders = true := by kernel_rfl
  obtain ⟨i24, z24, E24⟩ := elem24
  obtain ⟨κ, kb, pb, m, n, v, R, hE, hR, _, _⟩ := id h
  obtain ⟨ev, cv, rfl⟩ := hE.e.shape
  have hRn : R.length = es.length := by rw [← hR, List.length_map]
  obtain ⟨a, c, rfl, h63, _⟩ := id hr
  obtain ⟨w1, hw1⟩ : ∃ w1, w1 = w.alloc (.cells #[.int .i64 src, .int .i64 til, .slice a rows.length c] 63) := ⟨_, rfl⟩
  have hb1 : Below w.heap.size w w1 := by rw [hw1]; exact (Below.refl _ w).alloc (Nat.le_refl _) _
  have hk1 : Bl w1 w.heap.size 63 #[.int .i64 src, .int .i64 til, .slice a rows.length c] := by rw [hw1]; exact Bl.new w 63 _
  have HRH := Lib.hid (rowsHad_any (h.below hb1) (hr.below hb1) hw hn)
  have c0 := hk1.cell 0
  have c1 := hk1.cell 1
  have c2 := hk1.cell 2
  simp only [List.getElem?_toArray, List.getElem?_cons_succ, List.getElem?_cons_zero] at c0 c1 c2
  have HW1 := Lib.hid hw1.symm
  have HB1 := Lib.hid hb1
  have HK1 := Lib.hid hk1
  have HG : Hid (Bl w gb 96 #[.slice ev es.length cv, .map (some kb), .map (some pb)]) := Lib.hid (by have := hE.c; rwa [hRn] at this)
  have HEN : Hid (∀ i (h : i < es.length), ∃ g al cl, ev = some ⟨g, 0, none⟩ ∧ g < w.heap.size ∧ w.cell? ⟨g, i * 3, none⟩ = some (.int .i64 es[i].tm) ∧ w.cell? ⟨g, i * 3 + 1, none⟩ = some (.slice al es[i].labs.length cl) ∧ w.cell? ⟨g, i * 3 + 2, none⟩ = some (.string es[i].line) ∧ LabsAt (fun b => b < w.heap.size) w (.slice al es[i].labs.length cl) es[i].labs) := Lib.hid fun i hi => by
    have hi' : i < R.length := by rw [hRn]; exact hi
    have he : es[i] = R[i].2 := by subst hR; simp
    have hl := hE.l _ (List.getElem_mem hi')
    obtain ⟨_, ⟨h1, h2⟩ | ⟨g, cap, h1, _, h2, _, _, h3, _⟩⟩ := hE.e
    · omega
    · simp only [Value.slice.injEq] at h1
      obtain ⟨rfl, _, rfl⟩ := h1
      have hfl := flatR_length R
      obtain ⟨al, cl, hv, _⟩ := id hl
      refine ⟨g, al, cl, rfl, h2, ?_, ?_, ?_, ?_⟩
      · rw [h3 _ (by omega), show i * 3 = i * 3 + 0 from rfl, flatR_get R i hi' 0 (by omega), he]; rfl
      · rw [h3 _ (by omega), flatR_get R i hi' 1 (by omega), he, ← hv]; rfl
      · rw [h3 _ (by omega), flatR_get R i hi' 2 (by omega), he]; rfl
      · rw [he, ← hv]; exact hl.mono fun b _ hlt => hlt
  clear hE hR hRn hb1 hk1 hw1 h hr
  go_enter Tryz.func78, Tryz.ntmps78
  go_upto_region 1 with fail
  rw [HW1.out]
  go_wp2_with fail
  refine HRH.out.mono ?_
  rintro x w2 ⟨rfl, hh2, hl2⟩
  have hs1 : w.heap.size ≤ w1.heap.size := HB1.out.size
  have HH2 := Lib.hid hh2
  have HB2 := Lib.hid (below_mid HB1.out (lay_below hl2))
  have HK2 := Lib.hid (HK1.out.below (lay_below hl2))
  have HS1 : Hid (w.heap.size < w1.heap.size) := Lib.hid HK1.out.lt
  clear hh2 hl2 HRH c0 c1 c2 hs1
  go_wp2_with fail
  go_loopw [14, 5] (fun vi vb wr => ∃ (i : Nat) (S : List (Value × Ent)), vi = .int .i64 i ∧ i ≤ es.length ∧ Rk 3 (fun b => w2.heap.size ≤ b) wr vb S.length (flatR S) ∧ RawL (fun b => b < w.heap.size) wr S ∧ S.map Prod.snd = (es.take i).filter (asksE src til rows) ∧ Below w2.heap.size w2 wr) (fun vi _ _ => es.length - (intOf vi).toNat)
  case atStart => exact ⟨0, [], rfl, Nat.zero_le _, Rk.nil 3 _ _, fun x hx => by simp at hx, by simp, Below.refl _ _⟩
  case round =>
    obtain ⟨i, S, rfl, hi, hsk, hsl, hS, hb⟩ := hrel
    have HSK := Lib.hid hsk
    have HSL := Lib.hid hsl
    have HSS := Lib.hid hS
    have HB := Lib.hid hb
    have HSn : Hid (S.length ≤ 1000) := Lib.hid (by
      have h1 := congrArg List.length hS
      have h2 := List.length_filter_le (asksE src til rows) (es.take i)
      rw [List.length_map] at h1
      rw [List.length_take] at h2
      omega)
    clear hsk hsl hS
    by_cases hlt : i < es.length
    · obtain ⟨g, al, cl, rfl, hgl, x0, x1, x2, x3⟩ := HEN.out i hlt
      have hbw := below_mid HB2.out hb
      have hft := filter_take (asksE src til rows) es i hlt
      have hca := cntE_all es rows i
      have hsat : satE es i = fun r => r.any (H3.hasB es[i].line) := by funext r; unfold satE; rw [List.getElem?_eq_getElem hlt]; rfl
      rw [hsat] at hca
      generalize es[i] = e at x0 x1 x2 x3 hft hca
      have y0 : wr.cell? ⟨g, i * 3, none⟩ = _ := (hbw.cell hgl).trans x0
      have y1 : wr.cell? ⟨g, i * 3 + 1, none⟩ = _ := (hbw.cell hgl).trans x1
      have y2 : wr.cell? ⟨g, i * 3 + 2, none⟩ = _ := (hbw.cell hgl).trans x2
      have hgw := HG.out.below hbw
      have g0 := hgw.cell 0
      have hkw := HK2.out.below hb
      have k0 := hkw.cell 0
      have k1 := hkw.cell 1
      have k2 := hkw.cell 2
      have hhw : HadAt wr w1.heap.size es.length (cntE es rows) := Bl.below HH2.out hb
      have t0 := hhw.cell i hlt
      simp only [List.getElem?_toArray, List.getElem?_cons_succ, List.getElem?_cons_zero] at g0 k0 k1 k2
      obtain ⟨w7, hw7⟩ : ∃ w7, w7 = wr.alloc (.cells #[.int .i64 e.tm, .slice al e.labs.length cl, .string e.line] 32) := ⟨_, rfl⟩
      have hb6 : Below wr.heap.size wr w7 := by rw [hw7]; exact (Below.refl _ wr).alloc (Nat.le_refl _) _
      have hlab : LabsAt (fun b => b < w.heap.size) w7 (.slice al e.labs.length cl) e.labs := (x3.below1 hbw).below1 hb6
      have hne6 : Bl w7 wr.heap.size 32 #[.int .i64 e.tm, .slice al e.labs.length cl, .string e.line] := by rw [hw7]; exact Bl.new wr 32 _
      have hk6 := hkw.below hb6
      have HB6 := Lib.hid hb6
      have HLAB := Lib.hid hlab
      have HFT := Lib.hid hft
      generalize cntE es rows i = cn at t0 hca
      have HW7 := Lib.hid hw7.symm
      have q0 := hk6.cell 0
      have q1 := hk6.cell 1
      have q2 := hk6.cell 2
      have z0 := hne6.cell 0
      have z1 := hne6.cell 1
      have z2 := hne6.cell 2
      simp only [List.getElem?_toArray, List.getElem?_cons_succ, List.getElem?_cons_zero] at q0 q1 q2 z0 z1 z2
      clear x0 x1 x2 x3 hbw hgw hkw hhw hb6 hlab hft hsat hb hk6 hne6 hw7
      go_upto_region 6 with fail
      rw [HW7.out]
      clear y0 y1 y2 g0 k0 k1 k2 t0
      by_cases hc1 : cn = rows.length
      · have d1 : ((cn : Int) == (rows.length : Int)) = true := by rw [hc1]; simp
        have hall := hca.1 hc1
        by_cases hs1 : src ≤ e.tm
        · by_cases hs2 : e.tm ≤ til
          · have hyes : asksE src til rows e = true := by unfold asksE; rw [decide_eq_true hs1, decide_eq_true hs2, hall]; rfl
            have HYES := Lib.hid hyes
            have hsrc := src_entN (e := e) (w := w7) (al := al) (cl := cl)
            have HSRC := Lib.hid hsrc
            have hsn := HSn.out
            have hw2r : w2.heap.size ≤ wr.heap.size := HB.out.size
            have HW2R := Lib.hid hw2r
            clear hsrc hyes hall hc1 hca hw2r
            go_wp2_with (at_builtin; refine wpList_append_rk E24 _ rfl _ _ 43 rfl (G := fun b => w2.heap.size ≤ b) rfl ((HSK.out.below1 HB6.out).alloc _) ?c1 (.slice (some ⟨w7.heap.size, 0, none⟩) 1 1) 1 (flatR [((.slice al e.labs.length cl : Value), e)]) rfl HSRC.out ?c3 ?c4 ?_)
            case c1 =>
              intro k hk
              have h1 := HW2R.out
              have h2 := HB6.out.size
              simp at hk
              omega
            case c3 => omega
            case c4 => omega
            intro v' w8 hrk8 hk8
            have hba : Below w7.heap.size w7 (w7.alloc (.cells #[.int .i64 e.tm, .slice al e.labs.length cl, .string e.line] 32)) := (Below.refl _ _).alloc (Nat.le_refl _) _
            have hb1a := below_mid (below_mid HB.out HB6.out) hba
            have hb8 : Below w2.heap.size w2 w8 := keep_below ((HSK.out.below1 HB6.out).alloc _) (fun b hb => hb) hb1a hk8
            have hb08 := below_mid HB2.out hb8
            have HRK8 : Hid (Rk 3 (fun b => w2.heap.size ≤ b) w8 v' (S ++ [((.slice al e.labs.length cl : Value), e)]).length (flatR (S ++ [((.slice al e.labs.length cl : Value), e)]))) := Lib.hid (by
              have := hrk8.mono (G' := fun b => w2.heap.size ≤ b) fun b hb _ => hb.1
              rw [flatR_append, List.length_append]
              exact this)
            have hs0 : w.heap.size ≤ w2.heap.size := HB2.out.size
            have hraw : RawL (fun b => b < w.heap.size) w8 (S ++ [((.slice al e.labs.length cl : Value), e)]) := fun z hz => by
              have hold : ∀ b, b < w.heap.size → ∀ u : World, Below w2.heap.size w2 u → w8.heap[b]? = u.heap[b]? := fun b hb u hu => (hb8.block b (Nat.lt_of_lt_of_le hb hs0)).trans (hu.block b (Nat.lt_of_lt_of_le hb hs0)).symm
              rcases List.mem_append.1 hz with hz | hz
              · exact (HSL.out z hz).carry (Nat.le_trans HB6.out.size (Nat.le_trans hba.size hk8.size)) fun b hb _ => hold b hb wr HB.out
              · obtain rfl := List.mem_singleton.1 hz
                exact HLAB.out.carry (Nat.le_trans hba.size hk8.size) fun b hb _ => hold b hb _ (below_mid HB.out HB6.out)
            have HRAW := Lib.hid hraw
            have HB8 := Lib.hid hb8
            clear hrk8 hk8 hba hb1a hb8 hraw hb08 hs0
            go_wp2
            go_roundw
            case rel => exact ⟨i + 1, S ++ [((.slice al e.labs.length cl : Value), e)], by go_num, by omega, HRK8.out, HRAW.out, by rw [List.map_append, HSS.out, HFT.out, HYES.out]; rfl, HB8.out⟩
            case measure => simp [intOf]; omega
          · have hno : asksE src til rows e = false := by unfold asksE; rw [decide_eq_false hs2, Bool.and_false, Bool.false_and]
            have HNO := Lib.hid hno
            clear hno hall hc1 hca
            go_wp2_with fail
            go_roundw
            case rel => exact ⟨i + 1, S, by go_num, by omega, HSK.out.below1 HB6.out, HSL.out.below1 HB6.out, by rw [HSS.out, HFT.out, HNO.out]; simp, below_mid HB.out HB6.out⟩
            case measure => simp [intOf]; omega
        · have hno : asksE src til rows e = false := by unfold asksE; rw [decide_eq_false hs1, Bool.false_and, Bool.false_and]
          have HNO := Lib.hid hno
          clear hno hall hc1 hca
          go_wp2_with fail
          go_roundw
          case rel => exact ⟨i + 1, S, by go_num, by omega, HSK.out.below1 HB6.out, HSL.out.below1 HB6.out, by rw [HSS.out, HFT.out, HNO.out]; simp, below_mid HB.out HB6.out⟩
          case measure => simp [intOf]; omega
      · have d1 : ((cn : Int) == (rows.length : Int)) = false := by
          have : ¬ (cn : Int) = (rows.length : Int) := by omega
          simpa using this
        have hno : asksE src til rows e = false := by unfold asksE; rw [Bool.eq_false_iff.2 (fun h => hc1 (hca.2 h)), Bool.and_false]
        have HNO := Lib.hid hno
        clear hno hc1 hca
        go_wp2_with fail
        go_roundw
        case rel => exact ⟨i + 1, S, by go_num, by omega, HSK.out.below1 HB6.out, HSL.out.below1 HB6.out, by rw [HSS.out, HFT.out, HNO.out]; simp, below_mid HB.out HB6.out⟩
        case measure => simp [intOf]; omega
    · obtain rfl : i = es.length := by omega
      clear hb
      go_wp2_with fail
      go_ret
      have hR' := HSS.out
      rw [List.take_of_length_le (Nat.le_refl _)] at hR'
      have hents := HSK.out.ents HSL.out
      rw [hR'] at hents
      exact ⟨_, rfl, hents.mono (fun b hb _ => Nat.le_trans HB2.out.size hb) (fun b hb _ => hb), below_mid HB2.out HB.out⟩
end Go.Proofs.YtoobjjpheegmdaaGreat.E4
namespace Go.Proofs.YtoobjjpheegmdaaGreat.E4
open Go.RowKit Go
set_option maxHeartbeats 2000000 in
set_option maxRecDepth 100000 in
theorem index_strs (g : Nat) (lb : Array Value) (eg : ∀ args w, (callFunc g args).run Tryz.prog w = .ok (.enter g args) w) (p : ByteArray → Bool) (k : List (ByteArray)) (a : Option Addr) (c : Nat) (w : World) (hks : StrsAt w (.slice a k.length c) k)
    (hp : ∀ (W : World) (x : ByteArray), Below w.heap.size w W → Calls Tryz.prog g (#[.string x] ++ lb) W fun e w' => e = .returned (.bool (p x)) ∧ Below W.heap.size W w') :
    Calls Tryz.prog 114 #[.slice a k.length c, .func (.func g) #[] lb] w fun e w' => ∃ r : Int, e = .returned (.int .i64 r) ∧ (0 ≤ r ↔ k.any p = true) ∧ Below w.heap.size w w' := by
  obtain ⟨a', cap, he, hl63, hks⟩ := hks
  obtain ⟨rfl, rfl⟩ : a' = a ∧ cap = c := by simpa [eq_comm] using he
  have HK := Lib.hid hks
  have HP := Lib.hid hp
  clear hks hp he
  go_enter Tryz.func114, Tryz.ntmps114
  go_wp2_with fail
  go_loopw [5, 8] (fun _ vi wr => ∃ i : Nat, vi = .int .i64 i ∧ i ≤ k.length ∧ (k.take i).any p = false ∧ Below w.heap.size w wr) (fun _ vi _ => k.length - (intOf vi).toNat)
  case atStart => exact ⟨0, rfl, Nat.zero_le _, rfl, Below.refl _ w⟩
  case round =>
    obtain ⟨i, rfl, hi, hn, hb⟩ := hrel
    have HB := Lib.hid hb
    have HN := Lib.hid hn
    clear hn
    by_cases hlt : i < k.length
    · rcases HK.out with h0 | ⟨b, off, rfl, hbl, hka⟩
      · exact absurd hlt (by rw [h0]; simp)
      have x0 := (hb.cell (p := ⟨b, off + i, none⟩) hbl).trans (hka i hlt)
      have HT : Hid ((k.take (i + 1)).any p = ((k.take i).any p || p k[i])) := Lib.hid (by rw [List.take_succ_eq_append_getElem hlt, List.any_append, List.any_cons, List.any_nil, Bool.or_false])
      have HM : Hid (p k[i] = true → k.any p = true) := Lib.hid fun h => List.any_eq_true.2 ⟨_, List.getElem_mem hlt, h⟩
      generalize k[i] = x at x0 HT HM
      have HC := Lib.hid (HP.out wr x HB.out)
      clear hka hb
      cases hpx : p x with
      | true =>
        rw [hpx] at HC HM
        have HM2 := Lib.hid (HM.out rfl)
        clear HM hpx
        go_wp2_with (go_at_fn g; refine HC.out.mono ?_; rintro e w' ⟨rfl, hb'⟩)
        go_ret
        exact ⟨_, rfl, ⟨fun _ => HM2.out, fun _ => by omega⟩, HB.out.trans (hb'.mono HB.out.size)⟩
      | false =>
        rw [hpx] at HC HT
        clear hpx
        go_wp2_with (go_at_fn g; refine HC.out.mono ?_; rintro e w' ⟨rfl, hb'⟩)
        go_roundw
        case rel => exact ⟨i + 1, by go_num, by omega, by rw [HT.out, HN.out]; rfl, HB.out.trans (hb'.mono HB.out.size)⟩
        case measure => simp [intOf]; omega
    · obtain rfl : i = k.length := by omega
      have hn := HN.out
      rw [List.take_length] at hn
      have HE := Lib.hid hn
      clear hb hn
      go_wp2_with fail
      go_ret
      exact ⟨_, rfl, by rw [HE.out]; simp, HB.out⟩
set_option maxHeartbeats 2000000 in
theorem contains_strs (g : Nat) (lb : Array Value) (eg : ∀ args w, (callFunc g args).run Tryz.prog w = .ok (.enter g args) w) (p : ByteArray → Bool) (k : List (ByteArray)) (a : Option Addr) (c : Nat) (w : World) (hks : StrsAt w (.slice a k.length c) k)
    (hp : ∀ (W : World) (x : ByteArray), Below w.heap.size w W → Calls Tryz.prog g (#[.string x] ++ lb) W fun e w' => e = .returned (.bool (p x)) ∧ Below W.heap.size W w') :
    Calls Tryz.prog 102 #[.slice a k.length c, .func (.func g) #[] lb] w fun e w' => e = .returned (.bool (k.any p)) ∧ Below w.heap.size w w' := by
  have HI := Lib.hid (index_strs g lb eg p k a c w hks hp)
  clear hks hp
  generalize k.any p = b at HI ⊢
  go_enter Tryz.func102, Tryz.ntmps102
  go_wp2_with (go_at_call 114; refine HI.out.mono ?_; rintro e w' ⟨r, rfl, hr, hb'⟩)
  go_ret
  refine ⟨?_, hb'⟩
  congr 2
set_option maxHeartbeats 2000000 in
set_option maxRecDepth 100000 in
theorem index_rows (g : Nat) (lb : Array Value) (eg : ∀ args w, (callFunc g args).run Tryz.prog w = .ok (.enter g args) w) (p : List ByteArray → Bool) (k : List (List ByteArray)) (a : Option Addr) (c : Nat) (w : World) (hks : TextsAt w (.slice a k.length c) k)
    (hp : ∀ (W : World) (x : List ByteArray) (rv : Value), Below w.heap.size w W → StrsAt W rv x → Calls Tryz.prog g (#[rv] ++ lb) W fun e w' => e = .returned (.bool (p x)) ∧ Below W.heap.size W w') :
    Calls Tryz.prog 115 #[.slice a k.length c, .func (.func g) #[] lb] w fun e w' => ∃ r : Int, e = .returned (.int .i64 r) ∧ (0 ≤ r ↔ k.any p = true) ∧ Below w.heap.size w w' := by
  obtain ⟨a', cap, he, hl63, hks⟩ := hks
  obtain ⟨rfl, rfl⟩ : a' = a ∧ cap = c := by simpa [eq_comm] using he
  have HK := Lib.hid hks
  have HP := Lib.hid hp
  clear hks hp he
  go_enter Tryz.func115, Tryz.ntmps115
  go_wp2_with fail
  go_loopw [5, 8] (fun _ vi wr => ∃ i : Nat, vi = .int .i64 i ∧ i ≤ k.length ∧ (k.take i).any p = false ∧ Below w.heap.size w wr) (fun _ vi _ => k.length - (intOf vi).toNat)
  case atStart => exact ⟨0, rfl, Nat.zero_le _, rfl, Below.refl _ w⟩
  case round =>
    obtain ⟨i, rfl, hi, hn, hb⟩ := hrel
    have HB := Lib.hid hb
    have HN := Lib.hid hn
    clear hn
    by_cases hlt : i < k.length
    · rcases HK.out with h0 | ⟨b, off, rfl, hbl, hka⟩
      · exact absurd hlt (by rw [h0]; simp)
      obtain ⟨rv, y0, y1⟩ := hka i hlt
      have x0 := (hb.cell (p := ⟨b, off + i, none⟩) hbl).trans y0
      have y2 := y1.below hb
      have HT : Hid ((k.take (i + 1)).any p = ((k.take i).any p || p k[i])) := Lib.hid (by rw [List.take_succ_eq_append_getElem hlt, List.any_append, List.any_cons, List.any_nil, Bool.or_false])
      have HM : Hid (p k[i] = true → k.any p = true) := Lib.hid fun h => List.any_eq_true.2 ⟨_, List.getElem_mem hlt, h⟩
      generalize k[i] = x at y1 y2 HT HM
      have HC := Lib.hid (HP.out wr x rv HB.out y2)
      clear hka y0 y1 y2 hb
      cases hpx : p x with
      | true =>
        rw [hpx] at HC HM
        have HM2 := Lib.hid (HM.out rfl)
        clear HM hpx
        go_wp2_with (go_at_fn g; refine HC.out.mono ?_; rintro e w' ⟨rfl, hb'⟩)
        go_ret
        exact ⟨_, rfl, ⟨fun _ => HM2.out, fun _ => by omega⟩, HB.out.trans (hb'.mono HB.out.size)⟩
      | false =>
        rw [hpx] at HC HT
        clear hpx
        go_wp2_with (go_at_fn g; refine HC.out.mono ?_; rintro e w' ⟨rfl, hb'⟩)
        go_roundw
        case rel => exact ⟨i + 1, by go_num, by omega, by rw [HT.out, HN.out]; rfl, HB.out.trans (hb'.mono HB.out.size)⟩
        case measure => simp [intOf]; omega
    · obtain rfl : i = k.length := by omega
      have hn := HN.out
      rw [List.take_length] at hn
      have HE := Lib.hid hn
      clear hb hn
      go_wp2_with fail
      go_ret
      exact ⟨_, rfl, by rw [HE.out]; simp, HB.out⟩
set_option maxHeartbeats 2000000 in
theorem contains_rows (g : Nat) (lb : Array Value) (eg : ∀ args w, (callFunc g args).run Tryz.prog w = .ok (.enter g args) w) (p : List ByteArray → Bool) (k : List (List ByteArray)) (a : Option Addr) (c : Nat) (w : World) (hks : TextsAt w (.slice a k.length c) k)
    (hp : ∀ (W : World) (x : List ByteArray) (rv : Value), Below w.heap.size w W → StrsAt W rv x → Calls Tryz.prog g (#[rv] ++ lb) W fun e w' => e = .returned (.bool (p x)) ∧ Below W.heap.size W w') :
    Calls Tryz.prog 103 #[.slice a k.length c, .func (.func g) #[] lb] w fun e w' => e = .returned (.bool (k.any p)) ∧ Below w.heap.size w w' := by
  have HI := Lib.hid (index_rows g lb eg p k a c w hks hp)
  clear hks hp
  generalize k.any p = b at HI ⊢
  go_enter Tryz.func103, Tryz.ntmps103
  go_wp2_with (go_at_call 115; refine HI.out.mono ?_; rintro e w' ⟨r, rfl, hr, hb'⟩)
  go_ret
  refine ⟨?_, hb'⟩
  congr 2
end Go.Proofs.YtoobjjpheegmdaaGreat.E4
