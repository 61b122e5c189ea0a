/-
  record.Put.
-/
import Derived.Test.YtdjddlebjbngfaaGreatDoorIp
namespace Go.Proofs.YtdjddlebjbngfaaGreatDoor.E4
open Go.RowKit Go

theorem unzig_zig (k : Int) : Lib.unzigzag (Lib.zigzag k) = k := by
  unfold Lib.zigzag Lib.unzigzag
  by_cases h : 0 ≤ k
  · rw [if_pos h, if_pos (by omega)]; omega
  · rw [if_neg h, if_neg (by omega)]; omega

theorem Ent.bytes_len {e : Ent} (h : e.Mod) : e.bytes.length ≤ 201000000 := by
  have a := labsB_len h.labs
  have b := Lib.uvarint_length64 (Lib.zigzag_lt h.lo h.hi)
  have c := textB_len e.line h.line
  have := h.labs.1
  have := h.line
  simp only [Ent.bytes, List.length_append]
  omega

theorem text_ex (l : List UInt8) : ∃ s : ByteArray, s.data.toList = l := ⟨⟨l.toArray⟩, rfl⟩

theorem bytes_inj {x y : Ent} (hx : x.Mod) (hy : y.Mod) {r s : List UInt8} (h : x.bytes ++ r = y.bytes ++ s) : x = y ∧ r = s := by
  unfold Ent.bytes at h
  simp only [List.append_assoc] at h
  obtain ⟨h1, h2⟩ := uv_inj (Lib.zigzag_lt hx.lo hx.hi) (Lib.zigzag_lt hy.lo hy.hi) h
  obtain ⟨h3, h4⟩ := labsB_inj hx.labs hy.labs h2
  have a := hx.line
  have b := hy.line
  obtain ⟨h5, h6⟩ := textB_inj (by rw [dlen]; omega) (by rw [dlen]; omega) h4
  have h7 := congrArg Lib.unzigzag h1
  rw [unzig_zig, unzig_zig] at h7
  obtain ⟨xt, xl, xs⟩ := x
  obtain ⟨yt, yl, ys⟩ := y
  simp only [] at h3 h5 h7
  have e5 : xs = ys := data_inj h5
  subst h3 h7 e5
  exact ⟨rfl, h6⟩

def bytesF : List Ent → List UInt8
  | [] => []
  | x :: r => x.bytes ++ bytesF r

theorem bytesF_append : ∀ l m : List Ent, bytesF (l ++ m) = bytesF l ++ bytesF m
  | [], _ => rfl
  | x :: l, m => by simp [bytesF, bytesF_append l m]

theorem labsF_small : ∀ ls : List Lab, (∀ x ∈ ls, x.n.size ≤ 200 ∧ x.v.size ≤ 200) → (labsF ls).length ≤ 420 * ls.length
  | [], _ => by simp [labsF]
  | x :: r, h => by
    have h1 := labsF_small r (fun y hy => h y (by simp [hy]))
    have h2 := h x (by simp)
    have h3 := textB_len x.n (by omega)
    have h4 := textB_len x.v (by omega)
    simp only [labsF, labB, List.length_append, List.length_cons]
    omega

theorem small_len {x : Ent} (ht : -9223372036854775808 ≤ x.tm ∧ x.tm ≤ 9223372036854775807) (hb : x.big = false) : x.bytes.length ≤ 10000 := by
  obtain ⟨_, h1, h2, h3⟩ := mod_of ht hb
  have h4 := labsF_small x.labs h3
  have h5 := textB_len x.line (by omega)
  have h6 := Lib.uvarint_length64 (Lib.zigzag_lt ht.1 ht.2)
  have h7 := Lib.uvarint_length64 (x := x.labs.length) (by omega)
  unfold Ent.bytes labsB
  simp only [List.length_append]
  omega

theorem bytesF_len : ∀ l : List Ent, (∀ x ∈ l, x.bytes.length ≤ 10000) → (bytesF l).length ≤ 10000 * l.length
  | [], _ => by simp [bytesF]
  | x :: r, h => by
    have h1 := bytesF_len r (fun y hy => h y (by simp [hy]))
    have h2 := h x (by simp)
    simp only [bytesF, List.length_append, List.length_cons]
    omega

theorem ok_small {x : Ent} (h : x.ok = true) : x.labs.length ≤ 4 ∧ (∀ y ∈ x.labs, y.n.size ≤ 20 ∧ y.v.size ≤ 20) ∧ x.line.size ≤ 200 := by
  unfold Ent.ok labsOK lineOK at h
  simp only [Bool.and_eq_true, decide_eq_true_eq] at h
  obtain ⟨⟨_, h4, hall⟩, hl, _⟩ := h
  refine ⟨h4, fun y hy => ?_, hl⟩
  obtain ⟨i, hi, rfl⟩ := List.getElem_of_mem hy
  have h5 := List.all_eq_true.1 hall i (List.mem_range.2 hi)
  unfold labOK MW.name at h5
  have e : x.labs.getD i noLab = x.labs[i] := by simp [List.getD, hi]
  rw [e] at h5
  simp only [Bool.and_eq_true, decide_eq_true_eq] at h5
  rw [dlen] at h5
  exact ⟨h5.1.1.1.1.2, h5.1.2⟩

theorem not_at_nil (k : Nat) : ¬ At (.slice none 0 0) k := fun ⟨_, _, e⟩ => by cases e

theorem lay_nil {w w' : World} (h : Keep (At (.slice none 0 0)) w w') : Lay w w' := h.into fun k _ hat => (not_at_nil k hat).elim

/-- record.Put, behind the box. -/
theorem put_any {G H : Nat → Prop} {w : World} {lv sv : Value} {e : Ent} {l : List UInt8} (hs : By H w sv l) (h : LabsAt G w lv e.labs) (hG : ∀ b, G b → b < w.heap.size → ¬ At sv b) (hm : e.Mod) (hl : l.length ≤ 500000000) :
    Calls Tryz.prog 34 #[sv, e.val lv] w (PutPost sv (l ++ e.bytes) w) := by
  obtain ⟨a, ca, rfl, _⟩ := id h
  have HL0 : Hid (Keep (At sv) w (w.alloc (.cells #[.int .i64 e.tm, .slice a e.labs.length ca, .string e.line] 29))) := Lib.hid ((Keep.refl _ _).alloc _)
  have HAT := Lib.hid (fun b hb => (hs.at (b := b) hb).2)
  have hs0 := hs.alloc (.cells #[.int .i64 e.tm, .slice a e.labs.length ca, .string e.line] 29)
  have HI := Lib.hid (int_put e.tm hm.lo hm.hi sv l _ hs0 (by omega))
  have HH := Lib.hid ((h.mono (fun b hb hlt => (⟨hb, hlt⟩ : G b ∧ b < w.heap.size))).alloc (.cells #[.int .i64 e.tm, .slice a e.labs.length ca, .string e.line] 29))
  have HM := Lib.hid hm
  have HG := Lib.hid hG
  have hsa : (w.alloc (.cells #[.int .i64 e.tm, .slice a e.labs.length ca, .string e.line] 29)).heap.size = w.heap.size + 1 := by simp
  have c1 : (w.alloc (.cells #[.int .i64 e.tm, .slice a e.labs.length ca, .string e.line] 29)).cell? ⟨w.heap.size, 1, none⟩ = some (.slice a e.labs.length ca) := by go_simp
  have c2 : (w.alloc (.cells #[.int .i64 e.tm, .slice a e.labs.length ca, .string e.line] 29)).cell? ⟨w.heap.size, 2, none⟩ = some (.string e.line) := by go_simp
  have HC := Lib.hid (And.intro c1 c2)
  have HSA := Lib.hid hsa
  have hi1 := Lib.uvarint_length64 (Lib.zigzag_lt hm.lo hm.hi)
  have hi2 := labsB_len hm.labs
  have hi3 := hm.labs.1
  have hi4 := hm.line
  have hbox : ∀ w', Keep (At sv) (w.alloc (.cells #[.int .i64 e.tm, .slice a e.labs.length ca, .string e.line] 29)) w' → w'.cell? ⟨w.heap.size, 1, none⟩ = some (.slice a e.labs.length ca) ∧ w'.cell? ⟨w.heap.size, 2, none⟩ = some (.string e.line) := fun w' hk => by
    have hb := hk.block w.heap.size (by rw [HSA.out]; omega) (fun ha => by have := HAT.out _ ha; omega)
    exact ⟨(World.cell?_of_block (a := ⟨w.heap.size, 1, none⟩) hb).trans HC.out.1, (World.cell?_of_block (a := ⟨w.heap.size, 2, none⟩) hb).trans HC.out.2⟩
  have HBOX := Lib.hid hbox
  unfold Ent.val
  clear h hs hs0 hm hG c1 c2 hsa hbox
  go_enter Tryz.func34, Tryz.ntmps34
  go_wp2_with fail
  refine HI.out.mono ?_
  rintro x w1 ⟨v1, rfl, hs1, hk1⟩
  obtain ⟨k1, k2⟩ := HBOX.out w1 hk1
  have hlab1 := HH.out.keep hk1 (fun b hg hlt ha => HG.out b hg.1 hg.2 ha)
  have HP := Lib.hid (putLabels_any hs1 hlab1 (fun b hg _ ha => by
    rcases (hs1.at ha).1 with h | h
    · exact HG.out b hg.1 hg.2 h
    · rw [HSA.out] at h; have := hg.2; omega) HM.out.labs (by rw [List.length_append]; omega))
  have HS1 := Lib.hid hs1
  have HK1 := Lib.hid hk1
  clear hs1 hk1 hlab1 HI k2
  go_wp2_with fail
  refine HP.out.mono ?_
  rintro x w2 hp2
  obtain ⟨v2, he2, hs2, hk2⟩ := PutPost.then HS1.out HK1.out (Keep.refl _ _) hp2
  subst he2
  obtain ⟨_, k2⟩ := HBOX.out w2 hk2
  have HT := Lib.hid (text_put e.line (by omega) _ _ _ hs2 (by simp only [List.length_append]; omega))
  have HS2 := Lib.hid hs2
  have HK2 := Lib.hid hk2
  clear hs2 hk2 hp2 HP k1
  go_wp2_with fail
  refine HT.out.mono ?_
  rintro x w3 hp3
  obtain ⟨v3, he3, hs3, hk3⟩ := PutPost.base (PutPost.then HS2.out HK2.out (Keep.refl _ _) hp3) HL0.out
  subst he3
  have HS3 := Lib.hid hs3
  have HK3 := Lib.hid hk3
  clear hs3 hk3 hp3 HT
  go_wp2_with fail
  go_ret
  refine ⟨v3, rfl, ?_, HK3.out⟩
  have := HS3.out
  unfold Ent.bytes
  simpa using this

end Go.Proofs.YtdjddlebjbngfaaGreatDoor.E4
