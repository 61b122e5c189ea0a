/-
  THE DOCUMENT'S OWN TextPlain.
  THE DOCUMENT'S OWN TextPlain: its walk.
  THE DOCUMENT'S OWN TextQuery.
  A QUERY MADE OF NUMBERS CAN BE WRITTEN: no program in it.
-/
import Derived.Test.YtkckgjanfiiieaaDoorTxA
import Derived.Test.YtkckgjanfiiieaaDoorPrE
import Derived.Test.YtkckgjanfiiieaaDoorPxB
import Derived.Lib.SmallJoins
import Derived.Lib.ItoaMem
import Derived.Deep.DeepCutAuto
import Derived.Deep.RegionWith
import Derived.Test.YtkckgjanfiiieaaDoorMb7
namespace Go.Proofs.YtkckgjanfiiieaaDoor
open Go.RowKit Go

/-- A matcher's text, and all of them. -/
def mText1 (m : Mt) : List UInt8 := [32, 119, 104, 101, 114, 101, 32] ++ m.name.data.toList ++ (if m.not = true then [33] else []) ++ [61] ++ LX.quote m.value.data.toList
def mText : List Mt → List UInt8
  | [] => []
  | m :: r => mText1 m ++ mText r
theorem mText_snoc (m : Mt) : ∀ l : List Mt, mText (l ++ [m]) = mText l ++ mText1 m
  | [] => by simp [mText]
  | x :: r => by rw [List.cons_append, mText, mText, mText_snoc m r, List.append_assoc]
theorem mText_len : ∀ l : List Mt, (∀ m ∈ l, m.name.size ≤ 100000 ∧ m.value.size ≤ 100000) → (mText l).length ≤ 2000000 * l.length
  | [], _ => by simp [mText]
  | m :: r, h => by
    have h1 := mText_len r (fun x hx => h x (by simp [hx]))
    obtain ⟨h2, h3⟩ := h m (by simp)
    have h4 := quote_len m.value.data.toList
    have h5 : m.value.data.toList.length = m.value.size := (Lib.size_eq _).symm
    have h6 : m.name.data.toList.length = m.name.size := (Lib.size_eq _).symm
    rw [mText, List.length_append, List.length_cons]
    unfold mText1
    split <;> simp only [List.length_append, List.length_cons, List.length_nil] <;> omega

def hText (q : Qy) : List UInt8 := [102, 114, 111, 109, 32] ++ Lib.itoa q.src ++ [32, 116, 111, 32] ++ Lib.itoa q.til
def xText (f : Ft) : List UInt8 := if f.op = 1 then [] else [32, 102, 105, 110, 100, 32] ++ fText f
def dText (d : Bool) : List UInt8 := if d = true then [32, 100, 101, 115, 99] else []
def lText (n : Int) : List UInt8 := [32, 108, 105, 109, 105, 116, 32] ++ Lib.itoa n
def plainT (q : Qy) : List UInt8 := hText q ++ mText q.mat ++ xText q.fil ++ dText q.desc ++ lText q.lim

theorem msp_spell : ∀ l : List Mt, PX.spell (PX.msp l) = mText l
  | [] => by rw [PX.msp]; rfl
  | m :: r => by
    rw [PX.msp, PX.spell, PX.spell, PX.spell, PX.spell, msp_spell r, mText]
    unfold mText1 PX.lts
    cases m.not <;> simp [PX.kW, PX.kN, PX.kS, PX.kT, PX.wWhere, PX.wNe, PX.wEq]

theorem qsp_spell {q : Qy} (hc : PX.Can q.fil) : PX.spell (PX.qsp Lib.itoa q) = plainT q ++ (if q.page = ⟨#[]⟩ then [] else [32, 112, 97, 103, 101, 32] ++ LX.quote q.page.data.toList) := by
  have lW : ∀ s, PX.lts (PX.kW s) = s := fun s => by unfold PX.lts; rw [if_neg (by show ¬ 2 = 4; decide)]; rfl
  have lI : ∀ n, PX.lts (PX.kI Lib.itoa n) = Lib.itoa n := fun n => by unfold PX.lts; rw [if_neg (by show ¬ 3 = 4; decide)]; rfl
  have e1 : PX.spell (PX.psp q) = (if q.page = ⟨#[]⟩ then [] else [32, 112, 97, 103, 101, 32] ++ LX.quote q.page.data.toList) := by
    unfold PX.psp
    split
    · rfl
    · rw [PX.spell, PX.spell, PX.spell, lW]
      unfold PX.lts
      simp [PX.kT, PX.wPage]
  have e2 : PX.spell (PX.lsp Lib.itoa q) = lText q.lim ++ (if q.page = ⟨#[]⟩ then [] else [32, 112, 97, 103, 101, 32] ++ LX.quote q.page.data.toList) := by
    unfold PX.lsp lText
    rw [PX.spell, PX.spell, e1, lW, lI]
    simp [PX.wLimit]
  have e3 : PX.spell (PX.dsp Lib.itoa q) = dText q.desc ++ PX.spell (PX.lsp Lib.itoa q) := by
    unfold PX.dsp dText
    rw [PX.spell_append]
    split
    · rw [PX.spell, PX.spell, lW]
      simp [PX.wDesc]
    · rfl
  have e4 : PX.spell (PX.nsp Lib.itoa q) = xText q.fil ++ PX.spell (PX.dsp Lib.itoa q) := by
    unfold PX.nsp xText
    rw [PX.spell_append]
    split
    · rfl
    · rw [PX.spell, lW, fsp_spell hc]
      simp [PX.wFind]
  unfold PX.qsp
  rw [PX.spell, PX.spell, PX.spell, PX.spell, PX.spell_append, msp_spell, e4, e3, e2, lW, lI, lW, lI]
  unfold plainT hText
  simp [PX.wFrom, PX.wTo]

end Go.Proofs.YtkckgjanfiiieaaDoor

namespace Go.Proofs.YtkckgjanfiiieaaDoor
open Go.RowKit Go

/-- A query whose text can be written without growing beyond all bounds. -/
structure Wr (q : Qy) : Prop where
  can : PX.Can q.fil
  sm : Sm 100000 q.fil
  len : (fText q.fil).length ≤ 1000000000000
  mats : q.mat.length ≤ 1000
  mat : ∀ m ∈ q.mat, m.name.size ≤ 100000 ∧ m.value.size ≤ 100000
  src0 : -9223372036854775808 ≤ q.src
  src1 : q.src ≤ 9223372036854775807
  til0 : -9223372036854775808 ≤ q.til
  til1 : q.til ≤ 9223372036854775807
  lim0 : -9223372036854775808 ≤ q.lim
  lim1 : q.lim ≤ 9223372036854775807
  page : q.page.size ≤ 100000

theorem itoa_short (n : Int) (h0 : -9223372036854775808 ≤ n) (h1 : n ≤ 9223372036854775807) : (Lib.itoa n).length ≤ 1000 := by
  have := (LX.itoa_parts n h0 h1).2.1
  omega

end Go.Proofs.YtkckgjanfiiieaaDoor

namespace Go.Proofs.YtkckgjanfiiieaaDoor
open Go.RowKit Go

theorem plain_len {q : Qy} (hw : Wr q) : (plainT q).length ≤ 2000000000000 := by
  have h1 := itoa_short _ hw.src0 hw.src1
  have h2 := itoa_short _ hw.til0 hw.til1
  have h3 := itoa_short _ hw.lim0 hw.lim1
  have h4 := mText_len q.mat hw.mat
  have h5 := hw.mats
  have h6 : (xText q.fil).length ≤ 1000000000006 := by
    have := hw.len
    unfold xText
    split
    · simp
    · simp only [List.length_append, List.length_cons, List.length_nil]
      omega
  have h7 : (dText q.desc).length ≤ 5 := by
    unfold dText
    split <;> simp
  unfold plainT hText lText
  simp only [List.length_append, List.length_cons, List.length_nil]
  omega

end Go.Proofs.YtkckgjanfiiieaaDoor

namespace Go.Proofs.YtkckgjanfiiieaaDoor
open Go.RowKit Go

theorem text_small (c : Nat) : (Ft.textOf c).size ≤ 100 := by
  unfold Ft.textOf
  rcases Nat.lt_or_ge c Ft.texts.length with h | h
  · have : ∀ x ∈ Ft.texts, x.size ≤ 100 := by decide
    rw [List.getD_eq_getElem?_getD, List.getElem?_eq_getElem h]
    exact this _ (List.getElem_mem h)
  · rw [List.getD_eq_getElem?_getD, List.getElem?_eq_none h]
    decide
theorem name_small (c : Nat) : (Ft.nameOf c).size ≤ 100 := by
  unfold Ft.nameOf
  rcases Nat.lt_or_ge c Ft.names.length with h | h
  · have : ∀ x ∈ Ft.names, x.size ≤ 100 := by decide
    rw [List.getD_eq_getElem?_getD, List.getElem?_eq_getElem h]
    exact this _ (List.getElem_mem h)
  · rw [List.getD_eq_getElem?_getD, List.getElem?_eq_none h]
    decide
theorem key_small (c : Nat) : (Qy.keys.getD c ⟨#[]⟩).size ≤ 100 := by
  rcases Nat.lt_or_ge c Qy.keys.length with h | h
  · have : ∀ x ∈ Qy.keys, x.size ≤ 100 := by decide
    rw [List.getD_eq_getElem?_getD, List.getElem?_eq_getElem h]
    exact this _ (List.getElem_mem h)
  · rw [List.getD_eq_getElem?_getD, List.getElem?_eq_none h]
    decide
theorem val_small (c : Nat) : (Qy.vals.getD c ⟨#[]⟩).size ≤ 100 := by
  rcases Nat.lt_or_ge c Qy.vals.length with h | h
  · have : ∀ x ∈ Qy.vals, x.size ≤ 100 := by decide
    rw [List.getD_eq_getElem?_getD, List.getElem?_eq_getElem h]
    exact this _ (List.getElem_mem h)
  · rw [List.getD_eq_getElem?_getD, List.getElem?_eq_none h]
    decide

theorem leaf_sm {op : Int} {n t : ByteArray} (hn : n.size ≤ 100) (ht : t.size ≤ 100) : Sm 100000 (.mk op n t []) := by
  rw [Sm]
  refine ⟨by omega, by omega, ?_⟩
  rw [Sms]
  trivial
theorem leaf_len {op : Int} {n t : ByteArray} (hn : n.size ≤ 100) (ht : t.size ≤ 100) : (fText (.mk op n t [])).length ≤ 2000 := by
  have h1 := quote_len t.data.toList
  have h2 : t.data.toList.length ≤ 100 := by rw [← Lib.size_eq]; exact ht
  have h3 : n.data.toList.length ≤ 100 := by rw [← Lib.size_eq]; exact hn
  have l4 : (PX.lts (PX.kT t.data.toList)) = LX.quote t.data.toList := by unfold PX.lts; rw [if_pos (show (PX.kT t.data.toList).1 = 4 from rfl)]; rfl
  have lN : (PX.lts (PX.kN n.data.toList)) = n.data.toList := by unfold PX.lts; rw [if_neg (by show ¬ 1 = 4; decide)]; rfl
  have lW : ∀ s, PX.lts (PX.kW s) = s := fun s => by unfold PX.lts; rw [if_neg (by show ¬ 2 = 4; decide)]; rfl
  have lS : ∀ s, PX.lts (PX.kS s) = s := fun s => by unfold PX.lts; rw [if_neg (by show ¬ 5 = 4; decide)]; rfl
  unfold fText
  rw [PX.fsp]
  split
  · rw [PX.spell, PX.spell, lW]; simp [PX.wTrue]
  split
  · rw [PX.spell, PX.spell, lW]; simp [PX.wFalse]
  split
  · rw [PX.spell, PX.spell, PX.spell, lW, l4]
    simp [PX.wWord]
    omega
  split
  · rw [PX.spell, PX.spell, PX.spell, lW, l4]
    simp [PX.wHas]
    omega
  split
  · rw [PX.spell, PX.spell, PX.spell, PX.spell, PX.spell, lW, lN, lS, l4]
    simp [PX.wField, PX.wEq]
    omega
  split
  · rw [PX.spell, lW, PX.rsp]; simp [PX.wNot, PX.spell]
  split
  · rw [PX.rsp]; simp [PX.spell]
  · rw [PX.rsp]; simp [PX.spell]

/-- How long a made filter's text may be. -/
def tB : Nat → Nat
  | 0 => 2000
  | d + 1 => 3 * (tB d + 100) + 2000

theorem rText_len {w : List UInt8} (hw : w.length ≤ 3) {B : Nat} {l : List Ft} (h : ∀ k ∈ l, (fText k).length ≤ B) : (rText w l).length ≤ l.length * (B + 100) := by
  have hk : ∀ k ∈ l, (kText k).length ≤ B + 2 := fun k hk => by
    have := h k hk
    unfold kText
    split
    · simp; omega
    · omega
  have hs : ∀ r : List Ft, (∀ k ∈ r, (kText k).length ≤ B + 2) → (sText w r).length ≤ r.length * (B + 100) := fun r => by
    induction r with
    | nil => simp [sText]
    | cons x y ih =>
      intro hr
      have h1 := ih (fun k hk => hr k (by simp [hk]))
      have h2 := hr x (by simp)
      rw [sText, List.length_cons, Nat.add_mul]
      simp only [List.length_append, List.length_cons]
      omega
  cases l with
  | nil => simp [rText]
  | cons x y =>
    have h1 := hs y (fun k hk' => hk k (by simp [hk']))
    have h2 := hk x (by simp)
    rw [rText, List.length_append, List.length_cons, Nat.add_mul]
    omega

theorem kids_len {op : Int} {n t : ByteArray} {l : List Ft} (h6 : 6 ≤ op ∧ op ≤ 8) (hc : PX.Can (.mk op n t l)) (hl : l.length ≤ 3) {B : Nat} (h : ∀ k ∈ l, (fText k).length ≤ B) : (fText (.mk op n t l)).length ≤ 3 * (B + 100) + 2000 := by
  obtain ⟨_, _, _, htx⟩ := fText_of h6 hc
  have h1 : (rText (if op = 8 then PX.wOr else PX.wAnd) l).length ≤ l.length * (B + 100) := rText_len (by split <;> decide) h
  have h2 : l.length * (B + 100) ≤ 3 * (B + 100) := Nat.mul_le_mul_right _ hl
  rw [htx, List.length_append]
  split <;> simp only [List.length_cons, List.length_nil] <;> omega

theorem leaf_wr {l : List Int} {d p : Nat} (h : (Ft.next l (Ft.nd d) p).1 ≤ 4) : Sm 100000 (Ft.make l d p).1 ∧ (fText (Ft.make l d p).1).length ≤ 2000 := by
  have z : (⟨#[]⟩ : ByteArray).size ≤ 100 := by decide
  rcases (by omega : (Ft.next l (Ft.nd d) p).1 ≤ 1 ∨ (Ft.next l (Ft.nd d) p).1 = 2 ∨ (Ft.next l (Ft.nd d) p).1 = 3 ∨ (Ft.next l (Ft.nd d) p).1 = 4) with h | h | h | h
  · rw [Ft.make_word h]
    exact ⟨leaf_sm z (text_small _), leaf_len z (text_small _)⟩
  · rw [Ft.make_has h]
    exact ⟨leaf_sm z (text_small _), leaf_len z (text_small _)⟩
  · rw [Ft.make_field h]
    exact ⟨leaf_sm (name_small _) (text_small _), leaf_len (name_small _) (text_small _)⟩
  · rw [Ft.make_bool h]
    exact ⟨leaf_sm z z, leaf_len z z⟩

theorem sms_of {m : Nat} : ∀ {l : List Ft}, (∀ x ∈ l, Sm m x) → Sms m l
  | [], _ => by rw [Sms]; trivial
  | x :: r, h => by rw [Sms]; exact ⟨h x (by simp), sms_of fun y hy => h y (by simp [hy])⟩

theorem make_wr (l : List Int) : ∀ (d p : Nat), Sm 100000 (Ft.make l d p).1 ∧ (fText (Ft.make l d p).1).length ≤ tB d
  | 0, p => by
    have h := Ft.next_lt (l := l) (n := 5) (p := p) (by decide)
    exact leaf_wr (l := l) (d := 0) (p := p) (by show (Ft.next l 5 p).1 ≤ 4; omega)
  | d + 1, p => by
    by_cases h4 : (Ft.next l 8 p).1 ≤ 4
    · have h1 := leaf_wr (l := l) (d := d + 1) (p := p) h4
      exact ⟨h1.1, by rw [tB]; omega⟩
    have z : (⟨#[]⟩ : ByteArray).size ≤ 100000 := by decide
    by_cases h5 : (Ft.next l 8 p).1 = 5
    · have hcan := (PX.make_can l (d + 1) p).1
      rw [Ft.make_not h5] at hcan ⊢
      have h1 := make_wr l d (Ft.next l 8 p).2
      dsimp only at hcan ⊢
      refine ⟨?_, ?_⟩
      · rw [Sm]
        refine ⟨z, z, sms_of fun x hx => ?_⟩
        rw [List.mem_singleton] at hx
        subst hx
        exact h1.1
      · rw [tB]
        exact kids_len (by omega) hcan (by simp) (fun x hx => by
          rw [List.mem_singleton] at hx
          subst hx
          exact h1.2)
    · have h6 : 6 ≤ (Ft.next l 8 p).1 := by omega
      have ho := Ft.next_lt (l := l) (n := 2) (p := (Ft.next l 8 p).2) (by decide)
      have hk := Ft.next_lt (l := l) (n := 2) (p := (Ft.next l 2 (Ft.next l 8 p).2).2) (by decide)
      have hcan := (PX.make_can l (d + 1) p).1
      rw [Ft.make_and h6] at hcan ⊢
      dsimp only at hcan ⊢
      refine ⟨?_, ?_⟩
      · rw [Sm]
        exact ⟨z, z, sms_of (Ft.several_all (P := Sm 100000) (fun p => (make_wr l d p).1) _ _)⟩
      · rw [tB]
        exact kids_len (by omega) hcan (by rw [Ft.several_length]; omega) (Ft.several_all (P := fun x => (fText x).length ≤ tB d) (fun p => (make_wr l d p).2) _ _)

theorem mats_small (l : List Int) : ∀ (k p : Nat), ∀ m ∈ (Qy.mats l k p).1, m.name.size ≤ 100000 ∧ m.value.size ≤ 100000
  | 0, _, m, h => by simp [Qy.mats] at h
  | k + 1, p, m, h => by
    simp only [Qy.mats, List.mem_cons] at h
    rcases h with rfl | h
    · have h1 := key_small (Ft.next l 3 p).1
      have h2 := val_small (Ft.next l 4 (Ft.next l 3 (Ft.next l 3 p).2).2).1
      exact ⟨Nat.le_trans h1 (by decide), Nat.le_trans h2 (by decide)⟩
    · exact mats_small l k _ m h

theorem query_wr (l : List Int) : Wr (Qy.query l) := by
  have ha := Ft.next_lt (l := l) (n := 20) (p := 0) (by decide)
  have hd := Ft.next_lt (l := l) (n := 20) (p := (Ft.next l 8 (Ft.next l 2 (Ft.next l 20 0).2).2).2) (by decide)
  have hc := Ft.next_lt (l := l) (n := 8) (p := (Ft.next l 2 (Ft.next l 20 0).2).2) (by decide)
  have hk := Ft.next_lt (l := l) (n := 3) (p := (Ft.next l 20 (Ft.next l 8 (Ft.next l 2 (Ft.next l 20 0).2).2).2).2) (by decide)
  have hcan := (PX.query_can l).fil
  have z : (⟨#[]⟩ : ByteArray).size ≤ 100 := by decide
  unfold Qy.query at hcan ⊢
  dsimp only at hcan
  refine ⟨hcan, ?_, ?_, ?_, ?_, ?_, ?_, ?_, ?_, ?_, ?_, ?_⟩
  · dsimp only
    split
    · exact leaf_sm z z
    · exact (make_wr l 3 _).1
  · dsimp only
    split
    · exact Nat.le_trans (leaf_len z z) (by decide)
    · exact Nat.le_trans (make_wr l 3 _).2 (by decide)
  · dsimp only; rw [Qy.mats_length]; omega
  · dsimp only; exact mats_small l _ _
  · dsimp only; omega
  · dsimp only; omega
  · dsimp only; omega
  · dsimp only; omega
  · dsimp only; omega
  · dsimp only; omega
  · dsimp only; decide
end Go.Proofs.YtkckgjanfiiieaaDoor
