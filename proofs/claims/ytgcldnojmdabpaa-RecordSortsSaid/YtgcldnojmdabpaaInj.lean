/-
  BYTES TELL WHAT THEY ARE OF: numbers, texts, labels, entries. No walk.
-/
import Derived.Test.YtgcldnojmdabpaaPutE
namespace Go.Proofs.Ytgcldnojmdabpaa
open Go.RowKit Go

theorem uv_inj {x y : Nat} (hx : x < 18446744073709551616) (hy : y < 18446744073709551616) {r s : List UInt8} (h : Lib.uvarint x ++ r = Lib.uvarint y ++ s) : x = y ∧ r = s := by
  obtain ⟨l0, c, e, hl, hlow⟩ := M.isNum_of x hx
  obtain ⟨m0, d, f, hm, hmow⟩ := M.isNum_of y hy
  rw [e, f, List.append_assoc, List.append_assoc] at h
  simp only [List.singleton_append] at h
  obtain ⟨rfl, rfl, rfl⟩ := M.parts_unique hl.cont hl.last hm.cont hm.last h
  exact ⟨hlow.symm.trans hmow, rfl⟩

theorem textB_inj {a b : List UInt8} (ha : a.length < 18446744073709551616) (hb : b.length < 18446744073709551616) {r s : List UInt8} (h : textB a ++ r = textB b ++ s) : a = b ∧ r = s := by
  unfold textB at h
  rw [List.append_assoc, List.append_assoc] at h
  obtain ⟨h1, h2⟩ := uv_inj ha hb h
  exact List.append_inj h2 h1

theorem data_inj {a b : ByteArray} (h : a.data.toList = b.data.toList) : a = b := toList_inj a b (by rw [Lib.toList_data, Lib.toList_data]; exact h)

theorem dlen (s : ByteArray) : s.data.toList.length = s.size := (Lib.size_eq s).symm

theorem labB_inj {x y : Lab} (hx : x.n.size ≤ 100000 ∧ x.v.size ≤ 100000) (hy : y.n.size ≤ 100000 ∧ y.v.size ≤ 100000) {r s : List UInt8} (h : labB x ++ r = labB y ++ s) : x = y ∧ r = s := by
  unfold labB at h
  rw [List.append_assoc, List.append_assoc] at h
  obtain ⟨h1, h2⟩ := textB_inj (by rw [dlen]; omega) (by rw [dlen]; omega) h
  obtain ⟨h3, h4⟩ := textB_inj (by rw [dlen]; omega) (by rw [dlen]; omega) h2
  obtain ⟨xn, xv⟩ := x
  obtain ⟨yn, yv⟩ := y
  have e1 : xn = yn := data_inj h1
  have e2 : xv = yv := data_inj h3
  subst e1 e2
  exact ⟨rfl, h4⟩

theorem labsF_inj : ∀ {l m : List Lab}, (∀ x ∈ l, x.n.size ≤ 100000 ∧ x.v.size ≤ 100000) → (∀ x ∈ m, x.n.size ≤ 100000 ∧ x.v.size ≤ 100000) → l.length = m.length → ∀ {r s : List UInt8}, labsF l ++ r = labsF m ++ s → l = m ∧ r = s
  | [], [], _, _, _, _, _, h => ⟨rfl, h⟩
  | [], _ :: _, _, _, h, _, _, _ => by simp at h
  | _ :: _, [], _, _, h, _, _, _ => by simp at h
  | a :: l, b :: m, ha, hb, hl, r, s, h => by
    simp only [labsF, List.append_assoc] at h
    obtain ⟨rfl, h2⟩ := labB_inj (ha a (by simp)) (hb b (by simp)) h
    obtain ⟨rfl, h3⟩ := labsF_inj (fun x hx => ha x (by simp [hx])) (fun x hx => hb x (by simp [hx])) (by simpa using hl) h2
    exact ⟨rfl, h3⟩

theorem labsB_inj {l m : List Lab} (hl : LabsMod l) (hm : LabsMod m) {r s : List UInt8} (h : labsB l ++ r = labsB m ++ s) : l = m ∧ r = s := by
  unfold labsB at h
  rw [List.append_assoc, List.append_assoc] at h
  have a := hl.1
  have b := hm.1
  obtain ⟨h1, h2⟩ := uv_inj (by omega) (by omega) h
  exact labsF_inj hl.2 hm.2 h1 h2

theorem bytes_inj {x y : Ent} (hx : x.Mod) (hy : y.Mod) {r s : List UInt8} (h : x.bytes ++ r = y.bytes ++ s) : x = y ∧ r = s := by
  unfold Ent.bytes at h
  simp only [List.append_assoc] at h
  obtain ⟨h1, h2⟩ := uv_inj (Lib.zigzag_lt hx.lo hx.hi) (Lib.zigzag_lt hy.lo hy.hi) h
  obtain ⟨h3, h4⟩ := labsB_inj hx.labs hy.labs h2
  have a := hx.line
  have b := hy.line
  obtain ⟨h5, h6⟩ := textB_inj (by rw [dlen]; omega) (by rw [dlen]; omega) h4
  have h7 := congrArg Lib.unzigzag h1
  rw [unzig_zig, unzig_zig] at h7
  obtain ⟨xt, xl, xs⟩ := x
  obtain ⟨yt, yl, ys⟩ := y
  simp only [] at h3 h5 h7
  have e5 : xs = ys := data_inj h5
  subst h3 h7 e5
  exact ⟨rfl, h6⟩

theorem mod_of {e : Ent} (hw : -9223372036854775808 ≤ e.tm ∧ e.tm ≤ 9223372036854775807) (hb : e.big = false) : e.Mod ∧ e.labs.length ≤ 20 ∧ e.line.size ≤ 1000 ∧ ∀ x ∈ e.labs, x.n.size ≤ 200 ∧ x.v.size ≤ 200 := by
  unfold Ent.big at hb
  simp only [Bool.or_eq_false_iff, decide_eq_false_iff_not] at hb
  obtain ⟨⟨h1, h2⟩, h3⟩ := hb
  have h4 : ∀ x ∈ e.labs, x.n.size ≤ 200 ∧ x.v.size ≤ 200 := fun x hx => by
    have := List.any_eq_false.1 h3 x hx
    unfold Lab.big at this
    simp at this
    exact this
  exact ⟨⟨hw.1, hw.2, ⟨by omega, fun x hx => by have := h4 x hx; omega⟩, by omega⟩, by omega, by omega, h4⟩

theorem text_ex (l : List UInt8) : ∃ s : ByteArray, s.data.toList = l := ⟨⟨l.toArray⟩, rfl⟩

end Go.Proofs.Ytgcldnojmdabpaa
