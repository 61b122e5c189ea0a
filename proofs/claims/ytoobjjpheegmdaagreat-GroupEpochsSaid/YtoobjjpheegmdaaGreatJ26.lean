/-
  St14, En14, Ad14, Nw14.
-/
import Derived.Test.YtoobjjpheegmdaaGreatJ12
import Derived.Test.YtoobjjpheegmdaaGreatJ25
import Derived.Test.YtoobjjpheegmdaaGreatJ09
import Derived.Deep.RegionLaw
namespace Go.Proofs.YtoobjjpheegmdaaGreat.E4
open Go.RowKit Go
def keyL (ls : List Lab) : ByteArray := ⟨(labsB ls).toArray⟩
theorem keyL_inj {l m : List Lab} (hl : LabsMod l) (hm : LabsMod m) (h : keyL l = keyL m) : l = m := by
  have h1 : labsB l = labsB m := by
    have := congrArg (fun b : ByteArray => b.data.toList) h
    simpa [keyL] using this
  have h2 : labsB l ++ [] = labsB m ++ [] := by rw [h1]
  exact (labsB_inj hl hm h2).1
theorem keyL_size {l : List Lab} (h : LabsMod l) : (keyL l).size ≤ maxLen := by
  have h1 := labsB_len h
  have h2 : (keyL l).size = (labsB l).length := by show (labsB l).toArray.size = _; simp
  have h3 := h.1
  unfold maxLen
  omega
set_option maxHeartbeats 1000000 in
set_option maxRecDepth 100000 in
theorem stream_any {G : Nat → Prop} {w : World} {e : Ent} {lv : Value} (h : LabsAt G w lv e.labs) (hm : LabsMod e.labs) :
    Calls Tryz.prog 146 #[e.val lv] w fun x w' => x = .returned (.string (keyL e.labs)) ∧ Lay w w' := by
  obtain ⟨a, ca, rfl, _, _⟩ := id h
  obtain ⟨w1, hw1⟩ : ∃ w1, w1 = w.alloc (.cells #[.int .i64 e.tm, .slice a e.labs.length ca, .string e.line] 32) := ⟨_, rfl⟩
  have hl1 : Lay w w1 := by rw [hw1]; exact (Keep.refl _ w).alloc _
  have hk1 : Bl w1 w.heap.size 32 #[.int .i64 e.tm, .slice a e.labs.length ca, .string e.line] := by rw [hw1]; exact Bl.new w 32 _
  have HP := Lib.hid (putLabels_any (sv := .slice none 0 0) (l := []) (H := fun _ => True) (Rk.nil 1 _ w1) (h.lay hl1) (fun b _ _ ha => by obtain ⟨_, _, ha⟩ := ha; simp at ha) hm (by simp))
  have c1 := hk1.cell 1
  simp only [List.getElem?_toArray, List.getElem?_cons_succ, List.getElem?_cons_zero] at c1
  have HL1 := Lib.hid hl1
  have HW1 := Lib.hid hw1.symm
  clear h hl1 hk1 hw1 hm
  simp only [Ent.val, List.nil_append] at HP ⊢
  go_enter Tryz.func146, Tryz.ntmps146
  go_upto_region 1 with fail
  rw [HW1.out]
  go_wp2_with fail
  refine HP.out.mono ?_
  rintro x w2 ⟨bv, rfl, hby, hk2⟩
  have hcv : (convert 100 9 bv).run Tryz.prog w2 = .ok (.string (keyL e.labs)) w2 := bs_string hby.bs
  have HL2 := Lib.hid (Keep.trans HL1.out (hk2.into (H := fun _ => False) fun b _ ha => by obtain ⟨_, _, ha⟩ := ha; simp at ha))
  clear hby hk2 HP
  go_wp2_with fail
  go_ret
  exact ⟨rfl, HL2.out⟩
end Go.Proofs.YtoobjjpheegmdaaGreat.E4
namespace Go.Proofs.YtoobjjpheegmdaaGreat.E4
open Go.RowKit Go
structure Fl where
  lv : Value
  cv : Value
  ls : List Lab
  CH : List (Value × List (Value × Ent))
def Fl.val (t : Fl) : Value := .agg #[t.lv, t.cv]
structure EngC4 (κ : Nat → Nat) (ω : Nat → ByteArray) (w : World) (B gb mb n : Nat) (f : ByteArray → Option Fl) (es : List Ent) : Prop where
  c : Bl w gb 99 #[.map (some mb), .int .i64 (es.length : Int)]
  m : MapAt Tryz.prog 9 w mb n (fun s => (f s).map Fl.val)
  r : ∀ s t, f s = some t → s = keyL t.ls ∧ LabsMod t.ls ∧ t.CH ≠ [] ∧ FlowAt (fun b => B ≤ b ∧ κ b = 4 ∧ ω b = s) (fun b => B ≤ b ∧ κ b = 3) w t.lv t.cv t.ls t.CH
  e : ∀ x, x ∈ es ↔ ∃ t, f (keyL x.labs) = some t ∧ x ∈ flatC t.CH
  g : B ≤ gb ∧ κ gb = 1
  k : B ≤ mb ∧ κ mb = 2
def EngAt4 (w : World) (B gb : Nat) (es : List Ent) : Prop :=
  ∃ κ ω mb n f, EngC4 κ ω w B gb mb n f es ∧ n ≤ es.length
def EngK4 (κ : Nat → Nat) (w : World) (B gb : Nat) (es : List Ent) : Prop := ∃ ω mb n f, EngC4 κ ω w B gb mb n f es ∧ n ≤ es.length
theorem EngK4.at {κ : Nat → Nat} {w : World} {B gb : Nat} {es : List Ent} (h : EngK4 κ w B gb es) : EngAt4 w B gb es := ⟨κ, h⟩
theorem EngK4.carry {κ : Nat → Nat} {w w' : World} {B gb : Nat} {es : List Ent} (h : EngK4 κ w B gb es) (hs : w.heap.size ≤ w'.heap.size) (hb : ∀ b, b < w.heap.size → κ b ≠ 0 → w'.heap[b]? = w.heap[b]?) : EngK4 κ w' B gb es := by
  obtain ⟨ω, mb, n, f, h, hn⟩ := h
  exact ⟨ω, mb, n, f, ⟨(hb _ h.c.lt (by rw [h.g.2]; decide)).trans h.c, h.m.carry (hb _ h.m.lt (by rw [h.k.2]; decide)), fun s t hst => by
    obtain ⟨h1, h2, h3, h4⟩ := h.r s t hst
    exact ⟨h1, h2, h3, h4.carry hs fun k hk hlt => hb k hlt (by rcases hk with hk | hk; rw [hk.2.1]; decide; rw [hk.2]; decide)⟩, h.e, h.g, h.k⟩, hn⟩
theorem EngK4.conv {κ κ' : Nat → Nat} {w : World} {B B' gb : Nat} {es : List Ent} (h : EngK4 κ w B gb es) (hB : B' ≤ B) (hk : ∀ b, B ≤ b → b < w.heap.size → κ' b = κ b) : EngK4 κ' w B' gb es := by
  obtain ⟨ω, mb, n, f, h, hn⟩ := h
  exact ⟨ω, mb, n, f, ⟨h.c, h.m, fun s t hst => by
    obtain ⟨h1, h2, h3, h4⟩ := h.r s t hst
    exact ⟨h1, h2, h3, h4.mono (fun b hg hlt => ⟨Nat.le_trans hB hg.1, (hk b hg.1 hlt).trans hg.2.1, hg.2.2⟩) fun b hg hlt => ⟨Nat.le_trans hB hg.1, (hk b hg.1 hlt).trans hg.2⟩⟩, h.e, ⟨Nat.le_trans hB h.g.1, (hk _ h.g.1 h.c.lt).trans h.g.2⟩, ⟨Nat.le_trans hB h.k.1, (hk _ h.k.1 h.m.lt).trans h.k.2⟩⟩, hn⟩
theorem EngAt4.foot {w : World} {B gb : Nat} {es : List Ent} (h : EngAt4 w B gb es) : ∃ κ, EngK4 κ w 0 gb es ∧ ∀ b, κ b ≠ 0 → B ≤ b ∧ b < w.heap.size := by
  obtain ⟨κ, h⟩ := h
  refine ⟨fun b => if B ≤ b ∧ b < w.heap.size then κ b else 0, EngK4.conv (B := B) (κ := κ) h (Nat.zero_le _) fun b h1 h2 => if_pos ⟨h1, h2⟩, fun b hb => ?_⟩
  by_cases h1 : B ≤ b ∧ b < w.heap.size
  · exact h1
  · exact absurd (if_neg h1) hb
theorem EngC4.carry {κ : Nat → Nat} {ω : Nat → ByteArray} {w w' : World} {B gb mb n : Nat} {f : ByteArray → Option Fl} {es : List Ent} (h : EngC4 κ ω w B gb mb n f es) (hs : w.heap.size ≤ w'.heap.size) (hb : ∀ b, b < w.heap.size → w'.heap[b]? = w.heap[b]?) : EngC4 κ ω w' B gb mb n f es :=
  ⟨(hb _ h.c.lt).trans h.c, h.m.carry (hb _ h.m.lt), fun s t hst => by obtain ⟨h1, h2, h3, h4⟩ := h.r s t hst; exact ⟨h1, h2, h3, h4.carry hs fun k _ hlt => hb k hlt⟩, h.e, h.g, h.k⟩
theorem EngC4.below {κ : Nat → Nat} {ω : Nat → ByteArray} {w w' : World} {B gb mb n : Nat} {f : ByteArray → Option Fl} {es : List Ent} (h : EngC4 κ ω w B gb mb n f es) (hb : Below w.heap.size w w') : EngC4 κ ω w' B gb mb n f es := h.carry hb.size fun b hlt => hb.block b hlt
theorem EngK4.below {κ : Nat → Nat} {w w' : World} {B gb : Nat} {es : List Ent} (h : EngK4 κ w B gb es) (hb : Below w.heap.size w w') : EngK4 κ w' B gb es := h.carry hb.size fun b hlt _ => hb.block b hlt
theorem EngAt4.below {w w' : World} {B gb : Nat} {es : List Ent} (h : EngAt4 w B gb es) (hb : Below w.heap.size w w') : EngAt4 w' B gb es := by
  obtain ⟨κ, ω, mb, n, f, h, hr⟩ := h
  exact ⟨κ, ω, mb, n, f, h.below hb, hr⟩
theorem strict_nodup {l : List Ent} (h : Strict entC l) : l.Nodup := h.imp fun {a b} hab e => by
  subst e
  rw [entC_lc.refl] at hab
  cases hab
theorem EngC4.fl_len {κ : Nat → Nat} {ω : Nat → ByteArray} {w : World} {B gb mb n : Nat} {f : ByteArray → Option Fl} {es : List Ent} (h : EngC4 κ ω w B gb mb n f es) {s : ByteArray} {t : Fl} (hst : f s = some t) : (flatC t.CH).length ≤ es.length := by
  obtain ⟨h1, _, _, h4⟩ := h.r s t hst
  refine sub_len (strict_nodup h4.s) fun x hx => (h.e x).2 ⟨t, ?_, hx⟩
  rw [h4.m x hx, ← h1]; exact hst
theorem EngC4.has {κ : Nat → Nat} {ω : Nat → ByteArray} {w : World} {B gb mb n : Nat} {f : ByteArray → Option Fl} {es : List Ent} (h : EngC4 κ ω w B gb mb n f es) (e : Ent) : hasE es e = match f (keyL e.labs) with | some t => hasE (flatC t.CH) e | none => false := by
  rw [Bool.eq_iff_iff, hasE_iff, h.e]
  cases hf : f (keyL e.labs) with
  | none => simp
  | some t =>
    simp only [Option.some.injEq, exists_eq_left', hasE_iff]
theorem add_end4 {κ : Nat → Nat} {ω : Nat → ByteArray} {w w3 w5 w8 : World} {B gb mb n fb C : Nat} {f : ByteArray → Option Fl} {es : List Ent} {e : Ent} {t' : Fl} {CH : List (Value × List (Value × Ent))} (h : EngC4 κ ω w B gb mb n f es) (hB : B ≤ w.heap.size) (hm : LabsMod e.labs) (hno : hasE es e = false)
    (hl : Lay w w3) (hfb : w.heap.size ≤ fb) (hC : w3.heap.size ≤ C) (hk : Keep (fun b => b = fb ∨ (B ≤ b ∧ κ b = 4 ∧ ω b = keyL e.labs ∧ b < w.heap.size)) w3 w5) (hls : t'.ls = e.labs) (h0 : t'.CH ≠ []) (hCH : CH = match f (keyL e.labs) with | some t => t.CH | none => [])
    (hfl : FlowAt (fun b => (B ≤ b ∧ κ b = 4 ∧ ω b = keyL e.labs ∧ b < w.heap.size) ∨ C ≤ b) (fun b => (B ≤ b ∧ κ b = 3 ∧ b < w.heap.size) ∨ (w3.heap.size ≤ b ∧ b < C)) w5 t'.lv t'.cv t'.ls t'.CH) (hmem : ∀ x, x ∈ flatC t'.CH ↔ x ∈ flatC CH ∨ x = e)
    (hk8 : Keep (fun b => b = gb ∨ b = mb) w5 w8) (hc8 : Bl w8 gb 99 #[.map (some mb), .int .i64 ((es.length : Int) + 1)]) (hm8 : MapAt Tryz.prog 9 w8 mb (n + 1) (fun x => if x = keyL e.labs then some t'.val else (f x).map Fl.val)) (hn : n ≤ es.length) :
    (∃ κ', EngK4 κ' w8 B gb (es ++ [e]) ∧ (∀ b, b < w.heap.size → κ' b = κ b) ∧ ∀ b, b < w.heap.size → κ b = 0 → w8.heap[b]? = w.heap[b]?) ∧ Below B w w8 := by
  have hs3 := hl.size
  have hs5 := hk.size
  have hs8 := hk8.size
  have hg := h.g
  have hkk := h.k
  have hgl := h.c.lt
  have hml := h.m.lt
  have hold : ∀ b, b < w.heap.size → b ≠ gb → b ≠ mb → ¬ (B ≤ b ∧ κ b = 4 ∧ ω b = keyL e.labs) → w8.heap[b]? = w.heap[b]? := fun b hb h1 h2 h3 =>
    (hk8.block b (by omega) fun h => h.elim h1 h2).trans ((hk.block b (by omega) fun h => h.elim (fun h => by omega) fun h => h3 ⟨h.1, h.2.1, h.2.2.1⟩).trans (Lay.block hl hb))
  have hbel : Below B w w8 := by
    have h1 : Below B w w3 := (lay_below hl).mono hB
    have h2 : Below B w3 w5 := hk.below13 (fun b hb => by rcases hb with h | h <;> omega) (by omega)
    have h3 : Below B w5 w8 := hk8.below13 (fun b hb => by rcases hb with h | h <;> omega) (by omega)
    exact (h1.trans h2).trans h3
  refine ⟨⟨fun b => if b < w.heap.size then κ b else if b < C then 3 else 4, ⟨fun b => if b < w.heap.size then ω b else keyL e.labs, mb, n + 1, fun x => if x = keyL e.labs then some t' else f x, ⟨?_, ?_, fun s t hst => ?_, fun x => ?_, ⟨hg.1, by rw [if_pos hgl]; exact hg.2⟩, ⟨hkk.1, by rw [if_pos hml]; exact hkk.2⟩⟩, by rw [List.length_append, List.length_singleton]; omega⟩, fun b hb => if_pos hb, fun b hb h0 => hold b hb (fun e => by rw [e] at h0; omega) (fun e => by rw [e] at h0; omega) fun h => by omega⟩, hbel⟩
  · rw [List.length_append, List.length_singleton]
    exact hc8
  · have he : (fun s => (if s = keyL e.labs then some t' else f s).map Fl.val) = fun x => if x = keyL e.labs then some t'.val else (f x).map Fl.val := by
      funext s
      by_cases hs : s = keyL e.labs
      · rw [if_pos hs, if_pos hs]; rfl
      · rw [if_neg hs, if_neg hs]
    show MapAt _ 9 w8 mb (n + 1) (fun s => (if s = keyL e.labs then some t' else f s).map Fl.val)
    rw [he]
    exact hm8
  · by_cases hs : s = keyL e.labs
    · rw [if_pos hs] at hst
      obtain rfl : t' = t := by injection hst
      refine ⟨by rw [hs, hls], by rw [hls]; exact hm, h0, ?_⟩
      refine (hfl.carry hs8 fun b hb hlt => hk8.block b hlt fun h => ?_).mono (fun b hb hlt => ?_) fun b hb hlt => ?_
      · rcases h with h | h
        · rw [h] at hb
          rcases hb with (hb | hb) | hb | hb <;> omega
        · rw [h] at hb
          rcases hb with (hb | hb) | hb | hb <;> omega
      · rcases hb with hb | hb
        · exact ⟨hb.1, by rw [if_pos hb.2.2.2]; exact hb.2.1, by rw [if_pos hb.2.2.2, hs]; exact hb.2.2.1⟩
        · exact ⟨by omega, by rw [if_neg (by omega), if_neg (by omega)], by rw [if_neg (by omega)]; exact hs.symm⟩
      · rcases hb with hb | hb
        · exact ⟨hb.1, by rw [if_pos hb.2.2]; exact hb.2.1⟩
        · exact ⟨by omega, by rw [if_neg (by omega), if_pos hb.2]⟩
    · rw [if_neg hs] at hst
      obtain ⟨h1, h2, h3, h4⟩ := h.r s t hst
      refine ⟨h1, h2, h3, ?_⟩
      have h5 := h4.mono (G' := fun b => (B ≤ b ∧ κ b = 4 ∧ ω b = s) ∧ b < w.heap.size) (L' := fun b => (B ≤ b ∧ κ b = 3) ∧ b < w.heap.size) (fun b hb hlt => ⟨hb, hlt⟩) fun b hb hlt => ⟨hb, hlt⟩
      refine (h5.carry (by omega) fun b hb hlt => hold b hlt (fun e => ?_) (fun e => ?_) fun h6 => ?_).mono (fun b hb hlt => ?_) fun b hb hlt => ?_
      · rw [e] at hb; rcases hb with hb | hb <;> omega
      · rw [e] at hb; rcases hb with hb | hb <;> omega
      · rcases hb with hb | hb
        · exact hs (hb.1.2.2.symm.trans h6.2.2)
        · omega
      · exact ⟨hb.1.1, by rw [if_pos hb.2]; exact hb.1.2.1, by rw [if_pos hb.2]; exact hb.1.2.2⟩
      · exact ⟨hb.1.1, by rw [if_pos hb.2]; exact hb.1.2⟩
  · rw [List.mem_append, List.mem_singleton, h.e]
    show _ ↔ ∃ t, (if keyL x.labs = keyL e.labs then some t' else f (keyL x.labs)) = some t ∧ x ∈ flatC t.CH
    by_cases hk : keyL x.labs = keyL e.labs
    · rw [if_pos hk, hk]
      simp only [Option.some.injEq, exists_eq_left']
      rw [hmem, hCH]
      cases hf : f (keyL e.labs) with
      | none => simp [flatC]
      | some t => simp
    · rw [if_neg hk]
      constructor
      · rintro (h | h)
        · exact h
        · exact absurd (by rw [h]) hk
      · exact .inl
end Go.Proofs.YtoobjjpheegmdaaGreat.E4
namespace Go.Proofs.YtoobjjpheegmdaaGreat.E4
open Go.RowKit Go
def flOf (f : ByteArray → Option Fl) (s : ByteArray) (ls : List Lab) : Fl := match f s with | some t => t | none => ⟨.slice none 0 0, .slice none 0 0, ls, []⟩
set_option maxHeartbeats 8000000 in
set_option maxRecDepth 100000 in
theorem add4_any {κ : Nat → Nat} {H : Nat → Prop} {w : World} {B gb : Nat} {es : List Ent} {e : Ent} {lv : Value} (h : EngK4 κ w B gb es) (hB : B ≤ w.heap.size) (hl : LabsAt H w lv e.labs) (hm : e.Mod) (hn : es.length ≤ 1000) :
    Calls Tryz.prog 143 #[.pointer (some ⟨gb, 0, none⟩), e.val lv] w fun x w' => x = .returned (.tuple #[]) ∧ (∃ κ', EngK4 κ' w' B gb (addE es e) ∧ (∀ b, b < w.heap.size → κ' b = κ b) ∧ ∀ b, b < w.heap.size → κ b = 0 → w'.heap[b]? = w.heap[b]?) ∧ Below B w w' := by
  have hmx : Tryz.prog.follows .mixedOrders = true := by kernel_rfl
  obtain ⟨ω, mb, n, f, hE, hnn⟩ := id h
  obtain ⟨a, ca, rfl, h63, _⟩ := id hl
  obtain ⟨w1, hw1⟩ : ∃ w1, w1 = w.alloc (.cells #[.int .i64 e.tm, .slice a e.labs.length ca, .string e.line] 32) := ⟨_, rfl⟩
  have hl1 : Lay w w1 := by rw [hw1]; exact (Keep.refl _ w).alloc _
  have hk1 : Bl w1 w.heap.size 32 #[.int .i64 e.tm, .slice a e.labs.length ca, .string e.line] := by rw [hw1]; exact Bl.new w 32 _
  have HGD := Lib.hid (good_any (hl.lay hl1))
  have HW1 := Lib.hid hw1.symm
  have HE := Lib.hid hE
  have HK1 := Lib.hid hk1
  have HL1 := Lib.hid hl1
  have HL := Lib.hid hl
  have HH := Lib.hid h
  have c0 := hk1.cell 0
  have c1 := hk1.cell 1
  have c2 := hk1.cell 2
  simp only [List.getElem?_toArray, List.getElem?_cons_succ, List.getElem?_cons_zero] at c0 c1 c2
  clear hw1 hl1 hk1 hE hl h
  simp only [Ent.val] at HGD ⊢
  cases hok : e.ok with
  | false =>
    rw [hok] at HGD
    go_enter Tryz.func143, Tryz.ntmps143
    go_upto_region 1 with fail
    rw [HW1.out]
    go_wp2_with (go_at_call 24; refine HGD.out.mono ?_; rintro x w2 ⟨rfl, hl2⟩)
    have hl02 := Keep.trans HL1.out hl2
    refine bodyPost_ret (results_none rfl _ _ _) rfl ⟨rfl, ?_, ?_⟩
    · rw [addE_bad hok]; exact ⟨κ, HH.out.below (lay_below hl02), fun _ _ => rfl, fun b hb _ => Lay.block hl02 hb⟩
    · exact (lay_below hl02).mono hB
  | true =>
    rw [hok] at HGD
    go_enter Tryz.func143, Tryz.ntmps143
    go_upto_region 1 with fail
    rw [HW1.out]
    go_wp2_with fail
    refine HGD.out.mono ?_
    rintro x w2 ⟨rfl, hl2⟩
    have hl02 : Lay w w2 := Keep.trans HL1.out hl2
    have hk2 := HK1.out.below (lay_below hl2)
    have HST := Lib.hid (stream_any (HL.out.lay hl02) hm.labs)
    have HL02 := Lib.hid hl02
    have HK2 := Lib.hid hk2
    have c0 := hk2.cell 0
    have c1 := hk2.cell 1
    have c2 := hk2.cell 2
    simp only [List.getElem?_toArray, List.getElem?_cons_succ, List.getElem?_cons_zero] at c0 c1 c2
    simp only [Ent.val] at HST
    clear hl2 hl02 hk2 HGD
    go_wp2_with fail
    refine HST.out.mono ?_
    rintro x w3 ⟨rfl, hl3⟩
    have hl03 : Lay w w3 := Keep.trans HL02.out hl3
    have hk3 := HK2.out.below (lay_below hl3)
    have hE3 := HE.out.below (lay_below hl03)
    have hks := keyL_size hm.labs
    obtain ⟨t, ht⟩ : ∃ t, t = flOf f (keyL e.labs) e.labs := ⟨_, rfl⟩
    have hlk := hE3.m.look Tryz.underlying9 Tryz.underlying97 (z := .agg #[.slice none 0 0, .slice none 0 0]) (by kernel_rfl) hks
    have htv : ((f (keyL e.labs)).map Fl.val).getD (.agg #[.slice none 0 0, .slice none 0 0]) = .agg #[t.lv, t.cv] := by
      rw [ht]; unfold flOf
      cases f (keyL e.labs) <;> rfl
    have hsh : (∃ a n c, t.lv = .slice a n c) ∧ ∃ a n c, t.cv = .slice a n c := by
      rw [ht]; unfold flOf
      cases hf : f (keyL e.labs) with
      | none => exact ⟨⟨_, _, _, rfl⟩, ⟨_, _, _, rfl⟩⟩
      | some t =>
        obtain ⟨_, _, _, h4⟩ := HE.out.r _ t hf
        obtain ⟨a1, c1, h1, _⟩ := h4.l
        obtain ⟨a2, c2, h2⟩ := h4.c.shape
        exact ⟨⟨_, _, _, h1⟩, ⟨_, _, _, h2⟩⟩
    obtain ⟨⟨ya, yn, yc, hyl⟩, za, zn, zc, hzc⟩ := hsh
    rw [htv, hyl, hzc] at hlk
    have e0 := hE3.c.cell 0
    simp only [List.getElem?_toArray, List.getElem?_cons_succ, List.getElem?_cons_zero] at e0
    obtain ⟨w4, hw4⟩ : ∃ w4, w4 = w3.alloc (.cells #[.slice ya yn yc, .slice za zn zc] 207) := ⟨_, rfl⟩
    have hl34 : Lay w3 w4 := by rw [hw4]; exact (Keep.refl _ w3).alloc _
    have hfb4 : Bl w4 w3.heap.size 207 #[t.lv, t.cv] := by rw [hw4, hyl, hzc]; exact Bl.new w3 207 _
    have hl04 : Lay w w4 := Keep.trans hl03 hl34
    have hk4 := hk3.below (lay_below hl34)
    have d0 := hk4.cell 0
    have d1 := hk4.cell 1
    have d2 := hk4.cell 2
    simp only [List.getElem?_toArray, List.getElem?_cons_succ, List.getElem?_cons_zero] at d0 d1 d2
    have hhas : hasE es e = hasE (flatC t.CH) e := by
      rw [HE.out.has e, ht]; unfold flOf
      cases f (keyL e.labs) <;> rfl
    have HHAS := Lib.hid hhas
    have HT := Lib.hid ht
    have HL03 := Lib.hid hl03
    have HL04 := Lib.hid hl04
    have HFB4 := Lib.hid hfb4
    have HW4 := Lib.hid hw4.symm
    have HKS := Lib.hid hks
    have HFA : Hid (Calls Tryz.prog 147 #[.pointer (some ⟨w3.heap.size, 0, none⟩), e.val (.slice a e.labs.length ca)] w4 (FaddP (fun b => B ≤ b ∧ κ b = 4 ∧ ω b = keyL e.labs ∧ b < w.heap.size) (fun b => B ≤ b ∧ κ b = 3 ∧ b < w.heap.size) w4 w3.heap.size e.labs t.CH e)) := Lib.hid (by
      have hs03 := hl03.size
      rw [ht] at hfb4 ⊢
      unfold flOf at hfb4 ⊢
      cases hf : f (keyL e.labs) with
      | none =>
        rw [hf] at hfb4
        exact fadd_new hfb4 (HL.out.lay hl04) (by have := hm.labs.1; omega)
      | some t =>
        rw [hf] at hfb4
        obtain ⟨h1, h2, h3, h4⟩ := HE.out.r _ t hf
        have hls : e.labs = t.ls := keyL_inj hm.labs h2 h1
        have h5 := (h4.mono (G' := fun b => B ≤ b ∧ κ b = 4 ∧ ω b = keyL e.labs ∧ b < w.heap.size) (L' := fun b => B ≤ b ∧ κ b = 3 ∧ b < w.heap.size) (fun b hb hlt => ⟨hb.1, hb.2.1, hb.2.2, hlt⟩) fun b hb hlt => ⟨hb.1, hb.2, hlt⟩).lay hl04
        have hfl := HE.out.fl_len hf
        show Calls _ _ _ _ (FaddP _ _ w4 w3.heap.size e.labs t.CH e)
        rw [← hls] at h5
        exact fadd_old hfb4 h5 h3 (HL.out.lay hl04) rfl (fun h => by omega) (fun h => by omega) (fun b hb h => by omega) (fun b hb => by have := hl04.size; omega) (fun b hb => by have := hl04.size; omega) (by omega))
    simp only [Ent.val] at HFA
    clear hl3 hk3 hE3 hks ht htv hyl hzc hw4 hl34 hfb4 hl04 hk4 hhas hl03 c0 c1 c2 HST HK2 HK1
    go_upto_region 4 with fail
    rw [HW4.out]
    clear e0 hlk
    go_wp2_with fail
    refine HFA.out.mono ?_
    rintro x w5 ⟨rfl, hyes, hno⟩
    cases hhe : hasE (flatC t.CH) e with
    | true =>
      have hl45 := hyes hhe
      have hl05 := Keep.trans HL04.out hl45
      clear hyes hno d0 d1 d2 HFA
      go_wp2_with fail
      refine bodyPost_end (results_none rfl _ _ _) rfl ⟨rfl, ?_, ?_⟩
      · rw [addE_old (HHAS.out.trans hhe)]; exact ⟨κ, HH.out.below (lay_below hl05), fun _ _ => rfl, fun b hb _ => Lay.block hl05 hb⟩
      · exact (lay_below hl05).mono hB
    | false =>
      obtain ⟨lv', cv', CH', C, hC, hbl, hfl, hc0, hmem, hk5⟩ := hno hhe
      clear hyes hno d0 d1 d2 HFA
      have hl04 := HL04.out
      have hs04 := hl04.size
      have hs03 := HL03.out.size
      have hE4 := HE.out.below (lay_below hl04)
      have hkp := hE4.k
      have hgp := hE4.g
      have hgl4 := hE4.c.lt
      have hml4 := hE4.m.lt
      have hgw := HE.out.c.lt
      have hmw := HE.out.m.lt
      have hnfb : ∀ b, (b = w3.heap.size ∨ (B ≤ b ∧ κ b = 4 ∧ ω b = keyL e.labs ∧ b < w.heap.size)) → b ≠ gb ∧ b ≠ mb := fun b hb => by
        rcases hb with hb | hb
        · exact ⟨by omega, by omega⟩
        · exact ⟨fun e => by rw [e] at hb; omega, fun e => by rw [e] at hb; omega⟩
      have hc5 : Bl w5 gb 99 #[.map (some mb), .int .i64 (es.length : Int)] := (hk5.block gb hgl4 fun h => (hnfb gb h).1 rfl).trans hE4.c
      have hm5 : MapAt Tryz.prog 9 w5.drew mb n (fun s => (f s).map Fl.val) := hE4.m.carry ((hk5.block mb hml4 fun h => (hnfb mb h).2 rfl))
      obtain ⟨w6, hrun, hm6, hk6⟩ := hm5.store (e := 207) Tryz.underlying9 Tryz.underlying97 (by unfold maxLen; omega) HKS.out (.agg #[lv', cv'])
      have hc6 : Bl w6 gb 99 #[.map (some mb), .int .i64 (es.length : Int)] := (hk6.block gb hc5.lt (fun e => by rw [e] at hgp; omega)).trans hc5
      have hc7 : Bl (w6.setCell ⟨gb, 1, none⟩ (.int .i64 ((es.length : Int) + 1))) gb 99 #[.map (some mb), .int .i64 ((es.length : Int) + 1)] := by
        have := hc6.set12 1 (.int .i64 ((es.length : Int) + 1))
        simpa only [List.setIfInBounds_toArray, List.set_cons_zero, List.set_cons_succ] using this
      obtain ⟨w7, hw7⟩ : ∃ w7, w7 = w6.setCell ⟨gb, 1, none⟩ (.int .i64 ((es.length : Int) + 1)) := ⟨_, rfl⟩
      have hk7 : Keep (fun b => b = gb) w6 w7 := by rw [hw7]; exact keep_set12 (Keep.refl _ _) 1 _
      rw [← hw7] at hc7
      have hm7 : MapAt Tryz.prog 9 w7 mb (n + 1) (fun x => if x = keyL e.labs then some (Value.agg #[lv', cv']) else (f x).map Fl.val) := hm6.carry (hk7.block mb hm6.lt (fun e => by rw [e] at hkp; omega))
      have hk57 : Keep (fun b => b = gb ∨ b = mb) w5 w7 := Keep.trans ((((Keep.refl _ w5).drew).trans hk6).into fun b _ h => .inr h) (hk7.into fun b _ h => .inl h)
      have hend := add_end4 (t' := ⟨lv', cv', e.labs, CH'⟩) (CH := t.CH) HE.out hB hm.labs (HHAS.out.trans hhe) hl04 (by omega) hC hk5 rfl hc0 (by rw [HT.out]; unfold flOf; cases f (keyL e.labs) <;> rfl) hfl hmem hk57 hc7 hm7 hnn
      have HEND := Lib.hid hend
      have HW7 := Lib.hid hw7.symm
      obtain ⟨b1, b2, b3, hlv'⟩ : ∃ a n c, lv' = .slice a n c := by obtain ⟨a1, c1, h1, _⟩ := hfl.l; exact ⟨_, _, _, h1⟩
      obtain ⟨b4, b5, b6, hcv'⟩ : ∃ a n c, cv' = .slice a n c := by obtain ⟨a1, c1, h1⟩ := hfl.c.shape; exact ⟨_, _, _, h1⟩
      rw [hlv', hcv'] at hrun hbl
      have g0 := hc5.cell 0
      have q1 := hc6.cell 1
      have z1 := hc6.frozen 1
      have f0 := hbl.cell 0
      have f1 := hbl.cell 1
      simp only [List.getElem?_toArray, List.getElem?_cons_succ, List.getElem?_cons_zero] at g0 q1 f0 f1
      have hwl : IntKind.i64.wrap ((es.length : Int) + 1) = (es.length : Int) + 1 := by rw [IntKind.wrap_i64]; omega
      clear hl04 hE4 hc5 hm5 hm6 hk6 hc6 hc7 hw7 hk7 hm7 hk57 hend hbl hfl hmem hk5 hlv' hcv' hnfb
      go_wp2_with fail
      go_region
      go_wp2_with fail
      rw [HW7.out]
      refine bodyPost_end (results_none rfl _ _ _) rfl ⟨rfl, ?_⟩
      rw [addE_yes hok (HHAS.out.trans hhe)]
      exact HEND.out
end Go.Proofs.YtoobjjpheegmdaaGreat.E4
namespace Go.Proofs.YtoobjjpheegmdaaGreat.E4
open Go.RowKit Go
theorem len4_any (w : World) (B gb : Nat) (es : List Ent) (h : EngAt4 w B gb es) : Calls Tryz.prog 145 #[.pointer (some ⟨gb, 0, none⟩)] w fun e w' => e = .returned (.int .i64 es.length) ∧ w' = w := by
  obtain ⟨κ, ω, mb, n, f, h, _⟩ := h
  have c1 := h.c.cell 1
  simp only [List.getElem?_toArray, List.getElem?_cons_succ, List.getElem?_cons_zero] at c1
  clear h
  go_enter Tryz.func145, Tryz.ntmps145
  go_wp2_with fail
  go_ret
  exact ⟨rfl, rfl⟩
theorem new4_any (w : World) : Calls Tryz.prog 31 #[] w fun e w' => e = .returned (.pointer (some ⟨w.heap.size + 1, 0, none⟩)) ∧ EngAt4 w' w.heap.size (w.heap.size + 1) [] ∧ Lay w w' := by
  have hm := @run_makeMap Tryz.prog
  obtain ⟨w1, hw1⟩ : ∃ w1, w1 = w.alloc (.map #[] 0) := ⟨_, rfl⟩
  obtain ⟨w3, hw3⟩ : ∃ w3, w3 = w1.alloc (.cells #[.map (some w.heap.size), .int .i64 0] 99) := ⟨_, rfl⟩
  have hs1 : w1.heap.size = w.heap.size + 1 := by rw [hw1]; simp
  have hl1 : Lay w w1 := by rw [hw1]; exact (Keep.refl _ w).alloc _
  have hl3 : Lay w1 w3 := by rw [hw3]; exact (Keep.refl _ w1).alloc _
  have hm1 : MapAt Tryz.prog 9 w1 w.heap.size 0 (fun _ => none) := by rw [hw1]; exact MapAt.made _ _ _
  have hg3 : Bl w3 (w.heap.size + 1) 99 #[.map (some w.heap.size), .int .i64 0] := by rw [hw3, ← hs1]; exact Bl.new w1 _ _
  have hm13 : MapAt Tryz.prog 9 w3 w.heap.size 0 (fun _ => none) := hm1.carry ((Lay.block hl3 hm1.lt))
  have HE : Hid (EngAt4 w3 w.heap.size (w.heap.size + 1) []) := Lib.hid ⟨fun b => if b = w.heap.size then 2 else 1, fun _ => ⟨#[]⟩, w.heap.size, 0, fun _ => none, ⟨hg3, hm13, fun s t h => (by cases h), fun x => (by simp), ⟨by omega, by simp⟩, ⟨Nat.le_refl _, by simp⟩⟩, Nat.le_refl _⟩
  have HL := Lib.hid (Keep.trans hl1 hl3)
  rw [hw1] at hw3
  have HW3 := Lib.hid hw3.symm
  clear hm1 hg3 hm13 hl1 hl3 hs1 hw1 hw3
  go_enter Tryz.func31, Tryz.ntmps31
  go_wp2_with fail
  rw [HW3.out]
  go_ret
  exact ⟨rfl, HE.out, HL.out⟩
end Go.Proofs.YtoobjjpheegmdaaGreat.E4
