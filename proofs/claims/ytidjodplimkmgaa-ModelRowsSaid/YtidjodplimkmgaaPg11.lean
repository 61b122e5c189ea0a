/-
  model.Page: so much of the answer behind a mark.
-/
import Derived.Test.YtidjodplimkmgaaAw11
import Derived.Test.YtidjodplimkmgaaCt11
import Derived.Deep.RegionLaw
namespace Go.Proofs.Ytidjodplimkmgaa.E4
open Go.RowKit Go
open Go.Sort (grow)

/-- What Page hands back. -/
def PageP (q : Qy) (rows : List (List Ent)) (mk : Option Ent) (w : World) (e : Ending) (w' : World) : Prop :=
  ∃ out v, Sorts (ordC q.desc) (kept q rows) out ∧ e = .returned (.tuple #[v, .bool (Md.cut (ordC q.desc) mk q.lim.toNat out).2]) ∧ EntsAt (fun b => w.heap.size ≤ b) (fun _ => True) w' v (Md.cut (ordC q.desc) mk q.lim.toNat out).1 ∧ Below w.heap.size w w'

theorem Sorts.short {c : Ent → Ent → Int} (hc : LC c) {es out : List Ent} (h : Sorts c es out) : out.length ≤ es.length := by
  have hnd : out.Nodup := h.1.imp fun {a b} hab e => by
    subst e
    rw [hc.refl] at hab
    cases hab
  clear hc
  have key : ∀ {l m : List Ent}, l.Nodup → (∀ x ∈ l, x ∈ m) → l.length ≤ m.length := by
    intro l
    induction l with
    | nil => intro m _ _; exact Nat.zero_le _
    | cons x r ih =>
      intro m h hs
      rw [List.nodup_cons] at h
      obtain ⟨s, t, rfl⟩ := List.append_of_mem (hs x (by simp))
      have h1 := ih (m := s ++ t) h.2 fun y hy => by
        have h2 := hs y (List.mem_cons_of_mem _ hy)
        have h3 : y ≠ x := fun e => h.1 (e ▸ hy)
        simp only [List.mem_append, List.mem_cons] at h2 ⊢
        rcases h2 with h2 | h2 | h2
        · exact .inl h2
        · exact absurd h2 h3
        · exact .inr h2
      simp only [List.length_append, List.length_cons] at h1 ⊢
      omega
  exact key hnd fun x hx => (h.2 x).1 hx

set_option maxHeartbeats 8000000 in
set_option maxRecDepth 100000 in
theorem page_any (q : Qy) (qv : Value) (rows : List (List Ent)) (rv : Value) (has : Bool) (m : Ent) (ml : Value) (w : World) (hq : QAt w qv q) (hf : Fit q.fil) (hr : RowsAt w rv rows) (hfine : Fine rows) (hn : rows.flatten.length ≤ 1000) (hm : LabsAt (fun _ => True) w ml m.labs) (hSh : w.ShapedOpen Try.prog) :
    Calls Try.prog 10 #[qv, mkV has m ml, rv] w (PageP q rows (mkO has m) w) := by
  have hmx : Try.prog.follows .mixedOrders = true := by kernel_rfl
  obtain ⟨mv, kv, rfl, hmm, hk⟩ := hq
  obtain ⟨am, cm, rfl, hm63, _⟩ := id hmm
  obtain ⟨ak, ck, rfl⟩ := hk.shape
  obtain ⟨al, cl, rfl, hl63, _⟩ := id hm
  obtain ⟨ar, cr, rfl, hr63, _⟩ := id hr
  obtain ⟨W1, hW1⟩ : ∃ W1, W1 = (w.alloc (.cells #[.int .i64 q.src, .int .i64 q.til, .slice am q.mat.length cm, .int .i64 q.fil.op, .string q.fil.name, .string q.fil.text, .slice ak q.fil.kids.length ck, .bool q.desc, .int .i64 q.lim, .string q.page] 31)).alloc (.cells #[.bool has, .int .i64 m.tm, .slice al m.labs.length cl, .string m.line] 43) := ⟨_, rfl⟩
  have hb1 : Below w.heap.size w W1 := by rw [hW1]; exact ((Below.refl _ w).alloc (Nat.le_refl _) _).alloc (by simp) _
  have hq1 : CB W1 w.heap.size 31 #[.int .i64 q.src, .int .i64 q.til, .slice am q.mat.length cm, .int .i64 q.fil.op, .string q.fil.name, .string q.fil.text, .slice ak q.fil.kids.length ck, .bool q.desc, .int .i64 q.lim, .string q.page] := by rw [hW1]; exact (Below.heap_alloc _ _ _ (by simp)).trans (CB.new w 31 _)
  have hm1 : CB W1 (w.heap.size + 1) 43 #[.bool has, .int .i64 m.tm, .slice al m.labs.length cl, .string m.line] := by
    have h := CB.new (w.alloc (.cells #[.int .i64 q.src, .int .i64 q.til, .slice am q.mat.length cm, .int .i64 q.fil.op, .string q.fil.name, .string q.fil.text, .slice ak q.fil.kids.length ck, .bool q.desc, .int .i64 q.lim, .string q.page] 31)) 43 #[.bool has, .int .i64 m.tm, .slice al m.labs.length cl, .string m.line]
    rw [World.size_alloc] at h
    rw [hW1]; exact h
  have HA : Hid (∀ W, Below W1.heap.size W1 W → Calls Try.prog 7 #[q.val (.slice am q.mat.length cm) (.slice ak q.fil.kids.length ck), .slice ar rows.length cr] W (AnsPost q rows W)) := Lib.hid fun W hW => by
    have hb := below_mid hb1 hW
    exact answer_any q _ rows _ W ⟨_, _, rfl, hmm.below9 hb, KsAt.below hb _ _ hk⟩ hf (hr.below1 hb) hfine hn (shaped_below hSh hb)
  have HC : Hid (∀ W v out, Below W1.heap.size W1 W → EntsAt (fun b => W1.heap.size ≤ b) (fun _ => True) W v out → Sq v out.length → Sorts (ordC q.desc) (kept q rows) out → Calls Try.prog 17 #[v, .bool q.desc, mkV has m (.slice al m.labs.length cl), .int .i64 q.lim] W (CutP (Md.cut (ordC q.desc) (mkO has m) q.lim.toNat out) W)) := Lib.hid fun W v out hW he hs hso =>
    cut_any q.desc has m _ out v q.lim W he hs (hm.below1 (below_mid hb1 hW)) hso.1 (Nat.le_trans (Sorts.short (ordC_lc q.desc) hso) (Nat.le_trans (kept_len q rows) (Nat.le_trans hn (by decide))))
  have HQ1 := Lib.hid hq1
  have HM1 := Lib.hid hm1
  have HB1 := Lib.hid hb1
  have HW1 := Lib.hid hW1.symm
  have HDR : Hid (Below W1.heap.size W1 W1.drew) := Lib.hid (lay_below ((Keep.refl (fun _ => False) W1).drew))
  have c0 := hq1.cell 0
  have c1 := hq1.cell 1
  have c2 := hq1.cell 2
  have c3 := hq1.cell 3
  have c4 := hq1.cell 4
  have c5 := hq1.cell 5
  have c6 := hq1.cell 6
  have c7 := hq1.cell 7
  have c8 := hq1.cell 8
  have c9 := hq1.cell 9
  have m0 := hm1.cell 0
  have m1 := hm1.cell 1
  have m2 := hm1.cell 2
  have m3 := hm1.cell 3
  simp only [List.getElem?_toArray, List.getElem?_cons_succ, List.getElem?_cons_zero] at c0 c1 c2 c3 c4 c5 c6 c7 c8 c9 m0 m1 m2 m3
  have hqlt := hq1.lt
  have hmlt := hm1.lt
  clear hmm hk hm hr hf hfine hn hSh hq1 hm1 hb1 hW1
  simp only [Qy.val, mkV] at HA HC ⊢
  go_enter Try.func10, Try.ntmps10
  go_upto_region 1 with fail
  rw [HW1.out]
  go_region_law (go_simp; first
    | (go_at_call 7; refine (HA.out _ HDR.out).mono ?_; rintro e w2 ⟨v2, out, rfl, hent2, hsq2, hso2, hb2⟩
       have hb2 := HDR.out.trans hb2
       have HB2 := Lib.hid hb2
       have HE2 := Lib.hid hent2
       have HSQ2 := Lib.hid hsq2
       have HSO2 := Lib.hid hso2
       have d7 := (hb2.cell hqlt).trans c7
       have d8 := (hb2.cell hqlt).trans c8
       have n0 := (hb2.cell hmlt).trans m0
       have n1 := (hb2.cell hmlt).trans m1
       have n2 := (hb2.cell hmlt).trans m2
       have n3 := (hb2.cell hmlt).trans m3
       clear hb2 hent2 hsq2 hso2)
    | (go_at_call 17; refine (HC.out _ _ _ HB2.out HE2.out HSQ2.out HSO2.out).mono ?_; rintro e w3 ⟨v3, rfl, hent3, hl3⟩))
  all_goals
    have HE3 := Lib.hid hent3
    have HB3 := Lib.hid (below_mid HB1.out (below_mid HB2.out (lay_below hl3)))
    have HS2 : Hid (w.heap.size ≤ w2.heap.size) := Lib.hid (Nat.le_trans HB1.out.size HB2.out.size)
    clear hent3 hl3 c0 c1 c2 c3 c4 c5 c6 c7 c8 c9 m0 m1 m2 m3 d7 d8 n0 n1 n2 n3 hqlt hmlt
    go_wp2
    go_ret2
    exact ⟨out, v3, HSO2.out, rfl, HE3.out.mono (fun b hb _ => Nat.le_trans HS2.out hb) (fun _ _ _ => trivial), HB3.out⟩

end Go.Proofs.Ytidjodplimkmgaa.E4
