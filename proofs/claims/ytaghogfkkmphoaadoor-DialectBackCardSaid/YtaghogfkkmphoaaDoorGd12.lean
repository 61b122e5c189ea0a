/-
  A QUESTION THAT CAN BE: its bounds; without what its kind hasn't it can be too.
-/
import Derived.Test.YtaghogfkkmphoaaDoorGw12
import Derived.Test.YtaghogfkkmphoaaDoorSf12
import Derived.Test.YtaghogfkkmphoaaDoorDm12
import Derived.Test.YtaghogfkkmphoaaDoorBk12
import Derived.Test.YtaghogfkkmphoaaDoorPt12
namespace Go.Proofs.YtaghogfkkmphoaaDoor.E4
open Go.RowKit Go

theorem name_len12 {l : List UInt8} (h : MW.name l = true) : l.length ≤ 20 := by
  unfold MW.name at h
  simp only [Bool.and_eq_true, decide_eq_true_eq] at h
  exact h.1.1.2
theorem Ask.ok_of {a : Ask} (h : a.good isTx = true) : a.Ok := by
  unfold Ask.good at h
  simp only [Bool.and_eq_true, decide_eq_true_eq] at h
  obtain ⟨⟨h1, h2, h3⟩, h4⟩ := h
  refine ⟨h1, by omega, by omega, fun k => ?_, fun k => ?_⟩
  · rw [if_pos k] at h4
    simp only [Bool.and_eq_true, decide_eq_true_eq, List.all_eq_true] at h4
    refine ⟨h4.2, fun l hl => ?_⟩
    have hr := h4.1 l hl
    unfold rowG smallW at hr
    simp only [Bool.and_eq_true, decide_eq_true_eq, List.all_eq_true] at hr
    exact ⟨hr.1, fun s hs => hr.2 s hs⟩
  · rw [if_neg (by omega), if_pos k] at h4
    simp only [Bool.and_eq_true, decide_eq_true_eq, List.all_eq_true] at h4
    refine ⟨h4.2, fun m hm => ?_⟩
    have hr := h4.1 m hm
    unfold matG at hr
    simp only [Bool.and_eq_true, decide_eq_true_eq] at hr
    refine ⟨?_, hr.1.2⟩
    have := name_len12 hr.1.1
    rw [Lib.size_eq]
    exact this
theorem Ask.good_plain {a : Ask} (h : a.good isTx = true) : a.plain.good isTx = true := by
  have hk := (Ask.ok_of h).kd
  by_cases h1 : a.kd = 1
  · rw [Ask.plain1 h1]; unfold Ask.good Ask.inn at h ⊢; simpa [h1] using h
  by_cases h2 : a.kd = 2
  · rw [Ask.plain2 h2]; unfold Ask.good Ask.inn at h ⊢; simpa [h2] using h
  · rw [Ask.plain3 (by omega)]; unfold Ask.good Ask.inn at h ⊢; simpa [h1, h2] using h
theorem Ask.plain_ok {a : Ask} (h : a.good isTx = true) : a.plain.Ok := Ask.ok_of (Ask.good_plain h)
/-- What two texts' bytes are the same. -/
theorem bs_data (l : List UInt8) : (bs l).data.toList = l := rfl
theorem bs_inj {l m : List UInt8} (h : bs l = bs m) : l = m := by rw [← bs_data l, h, bs_data]
/-- What Put of nobody's leaves. -/
theorem put_nil {av mv : Value} (a : Ask) (w : World) (h1 : TextsAt w av a.all) (h2 : MsAt w mv a.mat) (hok : a.Ok) :
    Calls Tryd.prog 17 #[.slice none 0 0, a.dyn av mv] w fun e w' => ∃ u, e = .returned u ∧ Bs 0 w' u a.bytes ∧ Below w.heap.size w w' := by
  have h := put_any (H := fun _ => True) (sv := .slice none 0 0) (l := []) a (Below.refl w.heap.size w) h1 h2 (Rk.mono (Bs.nil 0 w).by fun _ _ _ => trivial) (fun b hb => by obtain ⟨n, c, e⟩ := hb; cases e) (by simp) hok
  refine h.mono ?_
  rintro e w' ⟨u, he, hu, hk⟩
  rw [List.nil_append] at hu
  exact ⟨u, he, hu.bs, ⟨hk.os, hk.tape, hk.output, hk.size, fun k hlt => hk.block k hlt (fun hat => by obtain ⟨n, c, e⟩ := hat; cases e)⟩⟩
theorem Ask.bytes_len {a : Ask} (h : a.Ok) : a.bytes.length ≤ 7000000 := by
  unfold Ask.bytes
  rw [List.length_append, List.length_append, List.length_append]
  have hk := h.kd
  have h1 : (Lib.uvarint a.kd.toNat).length ≤ 10 := Lib.uvarint_length64 (by omega)
  have h2 : (Lib.uvarint (Lib.zigzag a.src)).length ≤ 10 := Lib.uvarint_length64 (Lib.zigzag_lt h.src.1 h.src.2)
  have h3 : (Lib.uvarint (Lib.zigzag a.til)).length ≤ 10 := Lib.uvarint_length64 (Lib.zigzag_lt h.til.1 h.til.2)
  have h4 : a.tail.length ≤ 6500000 := by
    unfold Ask.tail
    split
    · next k =>
      obtain ⟨g1, g2⟩ := h.all k
      rw [List.length_append]
      have h5 : (Lib.uvarint a.all.length).length ≤ 10 := Lib.uvarint_length64 (by omega)
      have h6 := flat_len (B := rowB) (c := 100000) (l := a.all) fun x hx => rowB_len (g2 x hx)
      omega
    · split
      · next k =>
        obtain ⟨g1, g2⟩ := h.mat k
        rw [List.length_append]
        have h5 : (Lib.uvarint a.mat.length).length ≤ 10 := Lib.uvarint_length64 (by omega)
        have h6 := flat_len (B := matB) (c := 2000) (l := a.mat) fun x hx => matB_len (g2 x hx)
        omega
      · simp
  omega
/-- What the two Puts leave. -/
def putB (la lb : List UInt8) (j : Nat) : List UInt8 := match j with
  | 2 => la
  | _ => lb

end Go.Proofs.YtaghogfkkmphoaaDoor.E4
