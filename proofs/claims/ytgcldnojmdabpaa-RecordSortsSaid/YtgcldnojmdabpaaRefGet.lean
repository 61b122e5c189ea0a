/-
  The document's own Get.
-/
import Derived.Test.YtgcldnojmdabpaaGetE
import Derived.Test.YtgcldnojmdabpaaRefGood
import Derived.Test.YtgcldnojmdabpaaRefText
import Derived.Deep.RegionLaw
namespace Go.Proofs.Ytgcldnojmdabpaa
open Go.RowKit Go

/-- What the document's Get leaves. -/
def RefGetPost (g : Nat) (S : ByteArray) (l : List UInt8) (bad : Bool) (w : World) (e : Ending) (w' : World) : Prop :=
  ∃ (x : Ent) (lv : Value) (l' : List UInt8) (bad' : Bool) (pos' : Nat), RE l bad x l' bad' ∧ Rf w' g S pos' bad' ∧ Left l' bad' S pos' ∧ Chg g w w' ∧ LabsAt (fun b => w.heap.size ≤ b) w' lv x.labs ∧
    e = .returned (.tuple (if (!bad' && x.ok) = true then #[x.val lv, .bool true] else #[eZ.val (.slice none 0 0), .bool false]))

/-- append, as one step of a region that draws, by what it is known to run to. -/
theorem step_append_run {P : Program} {ops : Array Oper} {o : Oper} {a : Act} {w w' : World} {K : Act → World → Prop} {Q : Exit → Act → World → Prop} {E : Prop} {sv xv v' : Value}
    (hg : o.guard = none) (s x : Operand) (t : TypeId) (hop : o.op = Op.call { callee := Callee.builtin Builtin.append, args := #[s, x], argTypes := #[t, t] })
    (hs : a.eval s = sv) (hx : a.eval x = xv) (hrun : (Builtin.append_ #[t, t] o.type #[sv, xv]).run P w = .ok v' w') (hK : K (a.put o.dst v') w') :
    if Region.wanted o (yielded ops a.tmps) = true then Oper.wp P o a w K Q else E := by
  have hw : Region.wanted o (yielded ops a.tmps) = true := by simp [Region.wanted, hg]
  rw [if_pos hw]
  unfold Oper.wp
  simp [execOp, hop, resolve, invoke, builtin, hs, hx, hrun, Result.andThen]
  exact hK

/-- A label put behind the others. -/
theorem app_lab {B : Nat} {W : World} {a : Option Addr} {c : Nat} {ls : List Lab} (h : Rk 2 (fun b => B ≤ b) W (.slice a ls.length c) ls.length (flatL ls)) (hB : B ≤ W.heap.size) (hn : ls.length ≤ 1000) (s0 s1 : ByteArray) :
    ∃ a7 c7 w7, (Builtin.append_ #[22, 22] 22 #[.slice a ls.length c, .slice (some ⟨W.heap.size, 0, none⟩) 1 1]).run Try.prog (W.alloc (.cells #[.string s0, .string s1] 55)) = .ok (.slice a7 (ls.length + 1) c7) w7 ∧
      Rk 2 (fun b => B ≤ b) w7 (.slice a7 (ls.length + 1) c7) (ls ++ [(⟨s0, s1⟩ : Lab)]).length (flatL (ls ++ [(⟨s0, s1⟩ : Lab)])) ∧ Keep (At (.slice a ls.length c)) (W.alloc (.cells #[.string s0, .string s1] 55)) w7 := by
  obtain ⟨i55, z55, E55⟩ := elem55
  have hsrc : Src Try.prog 2 22 (.slice (some ⟨W.heap.size, 0, none⟩) 1 1) 1 (flatL [⟨s0, s1⟩]) (W.alloc (.cells #[.string s0, .string s1] 55)) :=
    Rk.src Try.underlying22 (rk_new 2 W 1 (flatL [⟨s0, s1⟩]) 55 rfl (by omega)) (fun u hu => by
      simp only [flatL, List.mem_cons, List.not_mem_nil, or_false] at hu
      rcases hu with rfl | rfl <;> rfl)
  obtain ⟨v7, w7, hrun, hrk, hk⟩ := run_append_rk E55 (h.alloc _) (fun k hk => by simp at hk; omega) 22 22 _ 1 _ hsrc (by omega) (by omega)
  obtain ⟨a7, c7, rfl⟩ := hrk.shape
  refine ⟨a7, c7, w7, hrun, ?_, hk⟩
  have := hrk.mono (G' := fun b => B ≤ b) fun b hb _ => hb.1
  rw [flatL_append, List.length_append]
  exact this

set_option maxHeartbeats 16000000 in
set_option maxRecDepth 100000 in
theorem ref_get_any (g : Nat) (S : ByteArray) (hS : S.size ≤ 2000) (pos : Nat) (l : List UInt8) (bad : Bool) (w : World) (h : Rf w g S pos bad) (hleft : Left l bad S pos) : Calls Try.prog 32 #[.pointer (some ⟨g, 0, none⟩)] w (RefGetPost g S l bad w) := by
  obtain ⟨i55, z55, E55⟩ := elem55
  have hgs : g < w.heap.size := h.lt
  obtain ⟨w1, hw1⟩ : ∃ w1, w1 = (w.alloc (.cells #[.int .i64 0, .slice none 0 0, .string ⟨#[]⟩] 24)).alloc (.cells #[.int .i64 0, .slice none 0 0, .string ⟨#[]⟩] 24) := ⟨_, rfl⟩
  have HC1 : Hid (Chg g w w1) := Lib.hid (by rw [hw1]; exact (Chg.alloc g w _).trans (Chg.alloc g _ _))
  have HBR : Hid (Bx w1 w.heap.size (.int .i64 0) (.slice none 0 0) (.string ⟨#[]⟩)) := Lib.hid (by rw [hw1]; exact ⟨by go_simp, by go_simp, by go_simp, by go_simp, by go_simp, by go_simp⟩)
  have HBE : Hid (Bx w1 (w.heap.size + 1) (.int .i64 0) (.slice none 0 0) (.string ⟨#[]⟩)) := Lib.hid (by rw [hw1]; exact ⟨by go_simp, by go_simp, by go_simp, by go_simp, by go_simp, by go_simp⟩)
  have HSZ : Hid (w.heap.size + 2 ≤ w1.heap.size) := Lib.hid (by rw [hw1]; simp)
  have HI := Lib.hid (ref_int_rd g S hS pos l bad w1 (h.carry (HC1.out.block g hgs |> fun _ => by rw [hw1]; exact (Below.heap_alloc _ _ _ (by simp; omega)).trans (Below.heap_alloc _ _ _ hgs))) hleft)
  clear h hleft
  go_enter Try.func32, Try.ntmps32
  go_wp2_with fail
  rw [← hw1]
  clear hw1
  refine HI.out.mono ?_
  rintro e w2 ⟨n, l1, b1, pos1, rfl, hru, hrf, hlf, hch⟩
  have hsz1 := HSZ.out
  have hb2 := HBE.out.carry (hch.block (w.heap.size + 1) (by omega) (by omega))
  have HBR2 := Lib.hid (HBR.out.carry (hch.block w.heap.size (by omega) (by omega)))
  have HBE2 := Lib.hid hb2
  obtain ⟨x0, x1, x2, z0, z1, z2⟩ := hb2
  have HRU := Lib.hid hru
  have HC2 := Lib.hid (HC1.out.trans hch)
  have HSZ2 : Hid (w.heap.size + 2 ≤ w2.heap.size) := Lib.hid (by have := hch.size; omega)
  have HU := Lib.hid (ref_rd 4 g S hS pos1 l1 b1 (w2.setCell ⟨w.heap.size + 1, 0, none⟩ (.int .i64 (Lib.unzigzag n))) (hrf.carry (Below.heap_setCell _ _ _ _ (by show g ≠ w.heap.size + 1; omega))) hlf)
  clear hru hrf hlf hch HI hsz1
  go_wp2_with fail
  have HBR3 := Lib.hid (HBR2.out.carry (W' := w2.setCell ⟨w.heap.size + 1, 0, none⟩ (.int .i64 (Lib.unzigzag n))) (Below.heap_setCell _ _ _ _ (by show w.heap.size ≠ w.heap.size + 1; omega)))
  have HBE3 := Lib.hid (HBE2.out.set0 (.int .i64 (Lib.unzigzag n)))
  have HC3 := Lib.hid (HC2.out.set (p := ⟨w.heap.size + 1, 0, none⟩) (by show w.heap.size ≤ w.heap.size + 1; omega) (.int .i64 (Lib.unzigzag n)))
  have HSZ3 : Hid (w.heap.size + 2 ≤ (w2.setCell ⟨w.heap.size + 1, 0, none⟩ (.int .i64 (Lib.unzigzag n))).heap.size) := Lib.hid (by have := HSZ2.out; simpa [World.setCell] using this)
  have hub := unzig_bounds n HRU.out.lt
  generalize w2.setCell ⟨w.heap.size + 1, 0, none⟩ (.int .i64 (Lib.unzigzag n)) = w3 at HBR3 HBE3 HC3 HU HSZ3 ⊢
  obtain ⟨tm, htm⟩ : ∃ tm, tm = Lib.unzigzag n := ⟨_, rfl⟩
  rw [← htm] at HBE3
  have HTM := Lib.hid htm
  rw [← htm]
  clear x0 x1 x2 z0 z1 z2 HBR2 HBE2 HC2 hub htm
  refine HU.out.mono ?_
  rintro e w4 ⟨m, l2, b2, pos2, rfl, hru2, hrf2, hlf2, hch2⟩
  have hm4 := hru2.le
  have HRU2 := Lib.hid hru2
  have HRF2 := Lib.hid hrf2
  have HLF2 := Lib.hid hlf2
  have HC4 := Lib.hid (HC3.out.trans hch2)
  have hsz3 := HSZ3.out
  have HBR4 := Lib.hid (HBR3.out.carry (hch2.block w.heap.size (by omega) (by omega)))
  have HBE4 := Lib.hid (HBE3.out.carry (hch2.block (w.heap.size + 1) (by omega) (by omega)))
  have HSZ4 : Hid (w.heap.size + 2 ≤ w4.heap.size) := Lib.hid (by have := hch2.size; omega)
  clear hru2 hrf2 hlf2 hch2 HU hsz3
  go_wp2_with fail
  go_loopw [6] (fun vk wr => ∃ (ls : List Lab) (l3 : List UInt8) (b3 : Bool) (pos3 : Nat) (u : Value), vk = .int .u64 (ls.length : Nat) ∧ ls.length ≤ m ∧ Rk 2 (fun b => w.heap.size + 2 ≤ b) wr u ls.length (flatL ls) ∧ RLs l2 b2 ls l3 b3 ∧ Rf wr g S pos3 b3 ∧ Left l3 b3 S pos3 ∧ Chg g w wr ∧ Bx wr w.heap.size (.int .i64 0) (.slice none 0 0) (.string ⟨#[]⟩) ∧ Bx wr (w.heap.size + 1) (.int .i64 tm) u (.string ⟨#[]⟩) ∧ w.heap.size + 2 ≤ wr.heap.size) (fun vk _ => m - (intOf vk).toNat)
  case atStart => exact ⟨[], l2, b2, pos2, .slice none 0 0, rfl, Nat.zero_le _, Rk.nil 2 _ _, .nil, HRF2.out, HLF2.out, HC4.out, HBR4.out, HBE4.out, HSZ4.out⟩
  case round =>
    obtain ⟨ls, l3, b3, pos3, u, rfl, hle, hrk, hrls, hrf, hlf, hch, hbr, hbe, hszr⟩ := hrel
    obtain ⟨au, cu, rfl⟩ := hrk.shape
    have HRK := Lib.hid hrk
    have HRLS := Lib.hid hrls
    have HCH := Lib.hid hch
    have HBR := Lib.hid hbr
    have HBE := Lib.hid hbe
    by_cases hlt : ls.length < m
    · have HT := Lib.hid (ref_text_rd 20 g (by omega) S hS pos3 l3 b3 wr hrf hlf 20 rfl)
      clear hrk hrls hch hbr hbe hrf hlf
      go_wp2_with fail
      refine HT.out.mono ?_
      rintro e w5 ⟨s0, l4, b4, pos4, rfl, ht0, hrf4, hlf4, hch4⟩
      have HT0 := Lib.hid ht0
      have HT2 := Lib.hid (ref_text_rd 20 g (by omega) S hS pos4 l4 b4 w5.drew (hrf4.drewN 1) hlf4 20 rfl)
      have hnu : ¬ At (.slice au ls.length cu) g := fun ha => by have := (HRK.out.at ha).1; omega
      have HNU := Lib.hid hnu
      have HRK5 := Lib.hid (HRK.out.carry (w' := w5) hch4.size fun k hk _ hlt => hch4.block k hlt (by omega))
      have HBR5 := Lib.hid (HBR.out.carry (hch4.block w.heap.size (by omega) (by omega)))
      have hbe5 := HBE.out.carry (hch4.block (w.heap.size + 1) (by omega) (by omega))
      have HBE5 := Lib.hid hbe5
      have HC5 := Lib.hid (HCH.out.trans hch4)
      have hs5 : w.heap.size + 2 ≤ w5.heap.size := by have := hch4.size; omega
      obtain ⟨x0, x1, x2, z0, z1, z2⟩ := hbe5
      clear ht0 hrf4 hlf4 hch4 hnu HT
      go_wp2_with fail
      go_region_law (first | (refine step_append_run rfl _ _ _ rfl rfl rfl hrun ?_) | (go_simp; go_at_call 64; refine HT2.out.mono ?_; rintro e w6 ⟨s1, l5, b5, pos5, rfl, ht1, hrf5, hlf5, hch5⟩; have hbe6 := HBE5.out.carry (W' := w6) (hch5.block (w.heap.size + 1) (by show w.heap.size + 1 < w5.heap.size; omega) (by omega)); have hrk6 := HRK5.out.carry (w' := w6) hch5.size (fun k hk _ hlt => hch5.block k hlt (by omega)); have hs6 : w.heap.size + 2 ≤ w6.heap.size := Nat.le_trans hs5 hch5.size; have hlt6 : w.heap.size + 1 < w6.heap.size := (by omega); have hne6 : ¬ w.heap.size + 1 = w6.heap.size := (by omega); obtain ⟨a7, c7, w7, hrun, hrk7, hk7⟩ := app_lab hrk6 hs6 (by omega) s0 s1; have hbe7 := hbe6.carry (W' := w7) ((hk7.block (w.heap.size + 1) (by simp <;> omega) (fun ha => by have := (hrk6.at ha).1; omega)).trans (Below.heap_alloc _ _ _ (by omega))); obtain ⟨y0, y1, y2, p0, p1, p2⟩ := id hbe6; obtain ⟨q0, q1, q2, r0, r1, r2⟩ := id hbe7))
      all_goals
        have hg7 : w7.heap[g]? = w6.heap[g]? := (hk7.block g (by simp <;> omega) HNU.out).trans (Below.heap_alloc _ _ _ (by omega))
        have hr7 : w7.heap[w.heap.size]? = w6.heap[w.heap.size]? := (hk7.block w.heap.size (by simp <;> omega) (fun ha => by have := (hrk6.at ha).1; omega)).trans (Below.heap_alloc _ _ _ (by omega))
        have hsz7 : w.heap.size + 2 ≤ w7.heap.size := by
          have h1 := hk7.size
          simp at h1
          omega
        have HRK7 := Lib.hid (hrk7.carry (w' := w7.setCell ⟨w.heap.size + 1, 1, none⟩ (.slice a7 (ls.length + 1) c7)) (by simp [World.setCell]) fun k hk _ _ => Below.heap_setCell _ _ _ _ (by show k ≠ w.heap.size + 1; omega))
        have HRF7 := Lib.hid (hrf5.carry (w' := w7.setCell ⟨w.heap.size + 1, 1, none⟩ (.slice a7 (ls.length + 1) c7)) ((Below.heap_setCell _ _ _ _ (by show g ≠ w.heap.size + 1; omega)).trans hg7))
        have HCH7 : Hid (Chg g w (w7.setCell ⟨w.heap.size + 1, 1, none⟩ (.slice a7 (ls.length + 1) c7))) := Lib.hid ((Chg.keep ((HC5.out.drew.trans hch5).trans (Chg.alloc g _ _)) hk7 (fun b hb => by have := (hrk6.at hb).1; omega)).set (p := ⟨w.heap.size + 1, 1, none⟩) (by show w.heap.size ≤ w.heap.size + 1; omega) _)
        have HBR7 := Lib.hid ((HBR5.out.carry (W' := w6) (hch5.block w.heap.size (by show w.heap.size < w5.heap.size; omega) (by omega))).carry (W' := w7.setCell ⟨w.heap.size + 1, 1, none⟩ (.slice a7 (ls.length + 1) c7)) ((Below.heap_setCell _ _ _ _ (by show w.heap.size ≠ w.heap.size + 1; omega)).trans hr7))
        have HBE7 := Lib.hid (hbe7.set1 (.slice a7 (ls.length + 1) c7))
        have HSZ7 : Hid (w.heap.size + 2 ≤ (w7.setCell ⟨w.heap.size + 1, 1, none⟩ (.slice a7 (ls.length + 1) c7)).heap.size) := Lib.hid (by simpa [World.setCell] using hsz7)
        have HT1 := Lib.hid ht1
        have HLF5 := Lib.hid hlf5
        clear hg7 hr7 hsz7 hrk7 hrk6 hk7 hch5 hrf5 hbe6 hbe7 hrun ht1 hlf5
        go_wp2_with fail
        go_roundw
        case rel => exact ⟨ls ++ [(⟨s0, s1⟩ : Lab)], l5, b5, pos5, _, by simp only [List.length_append, List.length_singleton]; go_num, by simp; omega, HRK7.out, .snoc HRLS.out HT0.out HT1.out, HRF7.out, HLF5.out, HCH7.out, HBR7.out, HBE7.out, HSZ7.out⟩
        case measure => simp [intOf]; omega
    · obtain rfl : ls.length = m := by omega
      have HT := Lib.hid (ref_text_rd 200 g (by omega) S hS pos3 l3 b3 wr hrf hlf 200 rfl)
      clear hrk hrls hrf hlf hch hbr hbe
      go_wp2_with fail
      refine HT.out.mono ?_
      rintro e w6 ⟨s, l6, b6, pos6, rfl, ht, hrf6, hlf6, hch6⟩
      have hb6 := HBE.out.carry (hch6.block (w.heap.size + 1) (by omega) (by omega))
      have hr6 := HBR.out.carry (hch6.block w.heap.size (by omega) (by omega))
      have HRT := Lib.hid ht
      have HC7 := Lib.hid ((HCH.out.trans hch6).set (p := ⟨w.heap.size + 1, 2, none⟩) (by show w.heap.size ≤ w.heap.size + 1; omega) (.string s))
      have hsz6 : w.heap.size + 2 ≤ w6.heap.size := by have := hch6.size; omega
      have HSZ7 : Hid (w.heap.size + 2 ≤ (w6.setCell ⟨w.heap.size + 1, 2, none⟩ (.string s)).heap.size) := Lib.hid (by simpa [World.setCell] using hsz6)
      have HLB7 : Hid (LabsAt (fun b => w.heap.size + 2 ≤ b) (w6.setCell ⟨w.heap.size + 1, 2, none⟩ (.string s)) (.slice au ls.length cu) ls) := Lib.hid (((HRK.out.carry hch6.size (fun k hk _ hlt => hch6.block k hlt (by omega))).labs).carry (by simp [World.setCell]) fun b hb _ => Below.heap_setCell _ _ _ _ (by show b ≠ w.heap.size + 1; omega))
      have HRF7 : Hid (Rf (w6.setCell ⟨w.heap.size + 1, 2, none⟩ (.string s)) g S pos6 b6) := Lib.hid (hrf6.carry (Below.heap_setCell _ _ _ _ (by show g ≠ w.heap.size + 1; omega)))
      have HBR7 := Lib.hid (hr6.carry (W' := w6.setCell ⟨w.heap.size + 1, 2, none⟩ (.string s)) (Below.heap_setCell _ _ _ _ (by show w.heap.size ≠ w.heap.size + 1; omega)))
      have HBE7 := Lib.hid (hb6.set2 (.string s))
      have HLF6 := Lib.hid hlf6
      have HRE : Hid (RE l bad ⟨tm, ls, s⟩ l6 b6) := Lib.hid ⟨n, l1, b1, l2, b2, l3, b3, HRU.out, HTM.out, HRU2.out, HRLS.out, HRT.out⟩
      have HGD : Hid (Calls Try.prog 15 #[.agg #[.int .i64 tm, .slice au ls.length cu, .string s]] (w6.setCell ⟨w.heap.size + 1, 2, none⟩ (.string s)) fun e w' => e = .returned (.bool (Ent.ok ⟨tm, ls, s⟩)) ∧ Lay (w6.setCell ⟨w.heap.size + 1, 2, none⟩ (.string s)) w') := Lib.hid (refGood_any (e := ⟨tm, ls, s⟩) HLB7.out)
      have hbad := hrf6.isBad
      have hge : ¬ w.heap.size + 1 = g := by omega
      have hge2 : ¬ g = w.heap.size + 1 := by omega
      obtain ⟨x0, x1, x2, z0, z1, z2⟩ := hb6
      obtain ⟨r0, r1, r2, p0, p1, p2⟩ := hr6
      clear ht hrf6 hlf6 hch6 HT
      cases b6 with
      | true =>
        go_wp2_with fail
        have hq := ((HBR7.out.set0 (.int .i64 0)).set1 (.slice none 0 0)).set2 (.string ⟨#[]⟩)
        obtain ⟨q0, q1, q2, _, _, _⟩ := hq
        refine bodyPost_ret (v := .tuple #[.agg #[.int .i64 0, .slice none 0 0, .string ⟨#[]⟩], .bool false]) (by simp [results, Try.results32, go_sem, q0, q1, q2]) rfl ?_
        refine ⟨⟨tm, ls, s⟩, .slice au ls.length cu, l6, true, pos6, HRE.out, ?_, HLF6.out, ?_, ?_, rfl⟩
        · exact ((HRF7.out.carry (Below.heap_setCell _ _ _ _ (by show g ≠ w.heap.size; omega))).carry (Below.heap_setCell _ _ _ _ (by show g ≠ w.heap.size; omega))).carry (Below.heap_setCell _ _ _ _ (by show g ≠ w.heap.size; omega))
        · exact ((HC7.out.set (Nat.le_refl _) _).set (p := ⟨w.heap.size, 1, none⟩) (Nat.le_refl _) _).set (p := ⟨w.heap.size, 2, none⟩) (Nat.le_refl _) _
        · exact (HLB7.out.carry (by simp [World.setCell]) fun b hb _ => ((Below.heap_setCell _ _ _ _ (by show b ≠ w.heap.size; omega)).trans (Below.heap_setCell _ _ _ _ (by show b ≠ w.heap.size; omega))).trans (Below.heap_setCell _ _ _ _ (by show b ≠ w.heap.size; omega))).mono fun b hb _ => by omega
      | false =>
        go_wp2_with fail
        refine HGD.out.mono ?_
        rintro e w9 ⟨rfl, hl9⟩
        have hsz7 := HSZ7.out
        have HB9 := Lib.hid (HBR7.out.carry (hl9.block (k := w.heap.size) (by omega)))
        have HRF9 := Lib.hid (HRF7.out.carry (hl9.block (k := g) (by omega)))
        have HC9 : Hid (Chg g w w9) := Lib.hid (HC7.out.trans ⟨hl9.os, hl9.tape, hl9.output, hl9.size, fun k hk _ => hl9.block hk⟩)
        have HLB9 := Lib.hid (HLB7.out.lay hl9)
        have hbe9 := HBE7.out.carry (hl9.block (k := w.heap.size + 1) (by omega))
        clear r0 r1 r2 p0 p1 p2 x0 x1 x2 z0 z1 z2 hl9 hsz7 hbad
        obtain ⟨r0, r1, r2, p0, p1, p2⟩ := HB9.out
        obtain ⟨x0, x1, x2, z0, z1, z2⟩ := hbe9
        cases hok : (Ent.ok ⟨tm, ls, s⟩) with
        | true =>
          have HOK := Lib.hid hok
          clear hok
          go_wp2_with fail
          have hq := ((HB9.out.set0 (.int .i64 tm)).set1 (.slice au ls.length cu)).set2 (.string s)
          obtain ⟨q0, q1, q2, _, _, _⟩ := hq
          refine bodyPost_ret (v := .tuple #[.agg #[.int .i64 tm, .slice au ls.length cu, .string s], .bool true]) (by simp [results, Try.results32, go_sem, q0, q1, q2]) rfl ?_
          refine ⟨⟨tm, ls, s⟩, .slice au ls.length cu, l6, false, pos6, HRE.out, ?_, HLF6.out, ?_, ?_, by rw [HOK.out]; rfl⟩
          · exact ((HRF9.out.carry (Below.heap_setCell _ _ _ _ (by show g ≠ w.heap.size; omega))).carry (Below.heap_setCell _ _ _ _ (by show g ≠ w.heap.size; omega))).carry (Below.heap_setCell _ _ _ _ (by show g ≠ w.heap.size; omega))
          · exact ((HC9.out.set (Nat.le_refl _) _).set (p := ⟨w.heap.size, 1, none⟩) (Nat.le_refl _) _).set (p := ⟨w.heap.size, 2, none⟩) (Nat.le_refl _) _
          · exact (HLB9.out.carry (by simp [World.setCell]) fun b hb _ => ((Below.heap_setCell _ _ _ _ (by show b ≠ w.heap.size; omega)).trans (Below.heap_setCell _ _ _ _ (by show b ≠ w.heap.size; omega))).trans (Below.heap_setCell _ _ _ _ (by show b ≠ w.heap.size; omega))).mono fun b hb _ => by omega
        | false =>
          have HOK := Lib.hid hok
          clear hok
          go_wp2_with fail
          have hq := ((HB9.out.set0 (.int .i64 0)).set1 (.slice none 0 0)).set2 (.string ⟨#[]⟩)
          obtain ⟨q0, q1, q2, _, _, _⟩ := hq
          refine bodyPost_ret (v := .tuple #[.agg #[.int .i64 0, .slice none 0 0, .string ⟨#[]⟩], .bool false]) (by simp [results, Try.results32, go_sem, q0, q1, q2]) rfl ?_
          refine ⟨⟨tm, ls, s⟩, .slice au ls.length cu, l6, false, pos6, HRE.out, ?_, HLF6.out, ?_, ?_, by rw [HOK.out]; rfl⟩
          · exact ((HRF9.out.carry (Below.heap_setCell _ _ _ _ (by show g ≠ w.heap.size; omega))).carry (Below.heap_setCell _ _ _ _ (by show g ≠ w.heap.size; omega))).carry (Below.heap_setCell _ _ _ _ (by show g ≠ w.heap.size; omega))
          · exact ((HC9.out.set (Nat.le_refl _) _).set (p := ⟨w.heap.size, 1, none⟩) (Nat.le_refl _) _).set (p := ⟨w.heap.size, 2, none⟩) (Nat.le_refl _) _
          · exact (HLB9.out.carry (by simp [World.setCell]) fun b hb _ => ((Below.heap_setCell _ _ _ _ (by show b ≠ w.heap.size; omega)).trans (Below.heap_setCell _ _ _ _ (by show b ≠ w.heap.size; omega))).trans (Below.heap_setCell _ _ _ _ (by show b ≠ w.heap.size; omega))).mono fun b hb _ => by omega

end Go.Proofs.Ytgcldnojmdabpaa
