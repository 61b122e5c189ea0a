/-
  record's putLabels, Put, Stream.
-/
import Derived.Test.YtgcldnojmdabpaaPutG
import Derived.Test.YtgcldnojmdabpaaSmall
namespace Go.Proofs.Ytgcldnojmdabpaa
open Go.RowKit Go

/-- A label's bytes, labels', an entry's. -/
def labB (x : Lab) : List UInt8 := textB x.n.data.toList ++ textB x.v.data.toList
def labsF : List Lab → List UInt8
  | [] => []
  | x :: r => labB x ++ labsF r
def labsB (ls : List Lab) : List UInt8 := Lib.uvarint ls.length ++ labsF ls
def Ent.bytes (e : Ent) : List UInt8 := Lib.uvarint (Lib.zigzag e.tm) ++ labsB e.labs ++ textB e.line.data.toList

theorem labsF_append : ∀ l m : List Lab, labsF (l ++ m) = labsF l ++ labsF m
  | [], _ => rfl
  | x :: r, m => by simp only [List.cons_append, labsF, labsF_append r m, List.append_assoc]

theorem textB_len (s : ByteArray) (h : s.size ≤ 100000) : (textB s.data.toList).length ≤ s.size + 10 := by
  have hs : s.data.toList.length = s.size := (Lib.size_eq s).symm
  have := Lib.uvarint_length64 (x := s.data.toList.length) (by omega)
  simp only [textB, List.length_append]
  omega

/-- Labels of moderate size. -/
def LabsMod (ls : List Lab) : Prop := ls.length ≤ 1000 ∧ ∀ x ∈ ls, x.n.size ≤ 100000 ∧ x.v.size ≤ 100000

theorem labB_len {x : Lab} (h : x.n.size ≤ 100000 ∧ x.v.size ≤ 100000) : (labB x).length ≤ 200020 := by
  have a := textB_len x.n h.1
  have b := textB_len x.v h.2
  simp only [labB, List.length_append]
  omega

theorem labsF_len : ∀ ls : List Lab, (∀ x ∈ ls, x.n.size ≤ 100000 ∧ x.v.size ≤ 100000) → (labsF ls).length ≤ 200020 * ls.length
  | [], _ => by simp [labsF]
  | x :: r, h => by
    have a := labB_len (h x (by simp))
    have b := labsF_len r fun y hy => h y (by simp [hy])
    simp only [labsF, List.length_append, List.length_cons]
    omega

theorem take_snocL {ls : List Lab} {k : Nat} (h : k < ls.length) : labsF (ls.take (k + 1)) = labsF (ls.take k) ++ labB ls[k] := by
  rw [List.take_succ_eq_append_getElem h, labsF_append]
  simp [labsF]

set_option maxHeartbeats 4000000 in
set_option maxRecDepth 100000 in
/-- record.putLabels. -/
theorem putLabels_any {G H : Nat → Prop} {w : World} {lv sv : Value} {ls : List Lab} {l : List UInt8} (hs : By H w sv l) (h : LabsAt G w lv ls) (hG : ∀ b, G b → b < w.heap.size → ¬ At sv b) (hm : LabsMod ls) (hl : l.length ≤ 1000000000) :
    Calls Try.prog 41 #[sv, lv] w (PutPost sv (l ++ labsB ls) w) := by
  obtain ⟨a, ca, rfl, hl63, ha⟩ := h
  have HA := Lib.hid ha
  have HM := Lib.hid hm
  have hn := hm.1
  have HU := Lib.hid (uint_put ls.length (by omega) sv l w hs (by omega))
  have hw64 : IntKind.u64.wrap ((ls.length : Nat) : Int) = (ls.length : Int) := by rw [IntKind.wrap_u64]; omega
  have hst : By (fun b => At sv b ∨ w.heap.size ≤ b) w sv l := hs.mono fun b _ ha => .inl ha
  clear ha hm hs
  go_enter Try.func41, Try.ntmps41
  go_wp2_with fail
  refine HU.out.mono ?_
  rintro e w1 ⟨v1, rfl, hs1, hb1⟩
  have HS1 := Lib.hid hs1
  clear hs1 HU hst
  go_wp2_with fail
  go_loopw [0, 14] (fun vb vi wr => ∃ k : Nat, vi = .int .i64 k ∧ k ≤ ls.length ∧ By (fun b => At sv b ∨ w.heap.size ≤ b) wr vb (l ++ Lib.uvarint ls.length ++ labsF (ls.take k)) ∧ Keep (At sv) w wr) (fun _ vi _ => ls.length - (intOf vi).toNat)
  case atStart => exact ⟨0, rfl, Nat.zero_le _, by simpa [labsF] using HS1.out, hb1⟩
  case round =>
    obtain ⟨k, rfl, hk, hbs, hbw⟩ := hrel
    have hul := Lib.uvarint_length64 (x := ls.length) (by omega)
    have hfl := labsF_len (ls.take k) (fun x hx => HM.out.2 x (List.mem_of_mem_take hx))
    rw [List.length_take] at hfl
    have hlen : (l ++ Lib.uvarint ls.length ++ labsF (ls.take k)).length ≤ 2000000000 := by
      simp only [List.length_append]
      omega
    have HLEN := Lib.hid hlen
    have HBS := Lib.hid hbs
    have HBW := Lib.hid hbw
    have hsz := hbw.size
    clear hul hfl hlen hbs hbw
    by_cases hlt : k < ls.length
    · rcases HA.out with h0 | ⟨bx, ox, rfl, hgx, hbx, hcx⟩
      · exact absurd hlt (by rw [h0]; simp)
      obtain ⟨x0, x1⟩ := hcx k hlt
      have hblk := HBW.out.block bx hbx (hG bx hgx hbx)
      have g0 := (World.cell?_of_block (a := ⟨bx, ox + k * 2, none⟩) hblk).trans x0
      have g1 := (World.cell?_of_block (a := ⟨bx, ox + k * 2 + 1, none⟩) hblk).trans x1
      have hbr : bx < wr.heap.size := by omega
      have hmx := HM.out.2 _ (List.getElem_mem hlt)
      have HTS := Lib.hid (take_snocL hlt)
      generalize ls[k] = x at g0 g1 x0 x1 hmx HTS
      have HT1 := Lib.hid (text_put x.n (by omega) _ _ _ (HBS.out.alloc (.cells #[.string x.n, .string x.v] 55)) (by have := HLEN.out; omega))
      have HMX := Lib.hid hmx
      have HAT := Lib.hid (fun b hb => (HBS.out.at (b := b) hb).2)
      clear hcx x0 x1 hmx hblk
      go_wp2_with fail
      refine HT1.out.mono ?_
      rintro e w2 hp2
      obtain ⟨v2, rfl, hs2, hk2⟩ := id hp2
      have hsa : (wr.alloc (.cells #[.string x.n, .string x.v] 55)).heap.size = wr.heap.size + 1 := by simp
      have k1 : w2.cell? ⟨wr.heap.size, 1, none⟩ = some (.string x.v) := (World.cell?_of_block (a := ⟨wr.heap.size, 1, none⟩) (hk2.block wr.heap.size (by omega) (fun ha => by have := HAT.out _ ha; omega))).trans (by go_simp)
      have hp2' := PutPost.then HBS.out HBW.out ((Keep.refl _ _).alloc _) hp2
      obtain ⟨_, he2, hs2', hk2'⟩ := hp2'
      cases he2
      have HS2 := Lib.hid hs2'
      have HK2 := Lib.hid hk2'
      have ht1 := textB_len x.n HMX.out.1
      have HT2 := Lib.hid (text_put x.v (by have := HMX.out.2; omega) _ _ _ hs2' (by have := HLEN.out; rw [List.length_append]; have := HMX.out.1; omega))
      clear hs2 hk2 hp2 hs2' hk2' HT1 hsa ht1
      go_wp2_with fail
      refine HT2.out.mono ?_
      rintro e w3 hp3
      obtain ⟨v3, he3, hs3, hk3⟩ := PutPost.then HS2.out HK2.out (Keep.refl _ _) hp3
      subst he3
      have HS3 := Lib.hid hs3
      have HK3 := Lib.hid hk3
      clear hs3 hk3 hp3 HT2
      go_wp2_with fail
      go_roundw
      case rel =>
        refine ⟨k + 1, by go_num, by omega, ?_, HK3.out⟩
        have := HS3.out
        rw [HTS.out]
        unfold labB
        simpa using this
      case measure => simp [intOf]; omega
    · obtain rfl : k = ls.length := by omega
      have := HBS.out
      rw [List.take_length, List.append_assoc] at this
      have HF := Lib.hid this
      clear this
      go_wp2_with fail
      go_ret
      exact ⟨_, rfl, HF.out, HBW.out⟩

/-- An entry of moderate size. -/
structure Ent.Mod (e : Ent) : Prop where
  lo : -9223372036854775808 ≤ e.tm
  hi : e.tm ≤ 9223372036854775807
  labs : LabsMod e.labs
  line : e.line.size ≤ 100000

theorem labsB_len {ls : List Lab} (h : LabsMod ls) : (labsB ls).length ≤ 200020 * ls.length + 10 := by
  have a := labsF_len ls h.2
  have b := Lib.uvarint_length64 (x := ls.length) (by have := h.1; omega)
  simp only [labsB, List.length_append]
  omega

theorem Ent.bytes_len {e : Ent} (h : e.Mod) : e.bytes.length ≤ 201000000 := by
  have a := labsB_len h.labs
  have b := Lib.uvarint_length64 (Lib.zigzag_lt h.lo h.hi)
  have c := textB_len e.line h.line
  have := h.labs.1
  have := h.line
  simp only [Ent.bytes, List.length_append]
  omega

theorem PutPost.base {sv : Value} {l : List UInt8} {w wA w' : World} {e : Ending} (h : PutPost sv l wA e w') (k : Keep (At sv) w wA) : PutPost sv l w e w' := by
  obtain ⟨v', he, hb, hk⟩ := h
  refine ⟨v', he, hb.mono fun b hb _ => hb.imp id (fun h => Nat.le_trans k.size h), k.trans hk⟩

set_option maxHeartbeats 4000000 in
set_option maxRecDepth 100000 in
/-- record.Put, behind the box. -/
theorem put_any {G H : Nat → Prop} {w : World} {lv sv : Value} {e : Ent} {l : List UInt8} (hs : By H w sv l) (h : LabsAt G w lv e.labs) (hG : ∀ b, G b → b < w.heap.size → ¬ At sv b) (hm : e.Mod) (hl : l.length ≤ 500000000) :
    Calls Try.prog 21 #[sv, e.val lv] w (PutPost sv (l ++ e.bytes) w) := by
  obtain ⟨a, ca, rfl, _⟩ := id h
  have HL0 : Hid (Keep (At sv) w (w.alloc (.cells #[.int .i64 e.tm, .slice a e.labs.length ca, .string e.line] 24))) := Lib.hid ((Keep.refl _ _).alloc _)
  have HAT := Lib.hid (fun b hb => (hs.at (b := b) hb).2)
  have hs0 := hs.alloc (.cells #[.int .i64 e.tm, .slice a e.labs.length ca, .string e.line] 24)
  have HI := Lib.hid (int_put e.tm hm.lo hm.hi sv l _ hs0 (by omega))
  have HH := Lib.hid ((h.mono (fun b hb hlt => (⟨hb, hlt⟩ : G b ∧ b < w.heap.size))).alloc (.cells #[.int .i64 e.tm, .slice a e.labs.length ca, .string e.line] 24))
  have HM := Lib.hid hm
  have HG := Lib.hid hG
  have hsa : (w.alloc (.cells #[.int .i64 e.tm, .slice a e.labs.length ca, .string e.line] 24)).heap.size = w.heap.size + 1 := by simp
  have c1 : (w.alloc (.cells #[.int .i64 e.tm, .slice a e.labs.length ca, .string e.line] 24)).cell? ⟨w.heap.size, 1, none⟩ = some (.slice a e.labs.length ca) := by go_simp
  have c2 : (w.alloc (.cells #[.int .i64 e.tm, .slice a e.labs.length ca, .string e.line] 24)).cell? ⟨w.heap.size, 2, none⟩ = some (.string e.line) := by go_simp
  have HC := Lib.hid (And.intro c1 c2)
  have HSA := Lib.hid hsa
  have hi1 := Lib.uvarint_length64 (Lib.zigzag_lt hm.lo hm.hi)
  have hi2 := labsB_len hm.labs
  have hi3 := hm.labs.1
  have hi4 := hm.line
  have hbox : ∀ w', Keep (At sv) (w.alloc (.cells #[.int .i64 e.tm, .slice a e.labs.length ca, .string e.line] 24)) w' → w'.cell? ⟨w.heap.size, 1, none⟩ = some (.slice a e.labs.length ca) ∧ w'.cell? ⟨w.heap.size, 2, none⟩ = some (.string e.line) := fun w' hk => by
    have hb := hk.block w.heap.size (by rw [HSA.out]; omega) (fun ha => by have := HAT.out _ ha; omega)
    exact ⟨(World.cell?_of_block (a := ⟨w.heap.size, 1, none⟩) hb).trans HC.out.1, (World.cell?_of_block (a := ⟨w.heap.size, 2, none⟩) hb).trans HC.out.2⟩
  have HBOX := Lib.hid hbox
  unfold Ent.val
  clear h hs hs0 hm hG c1 c2 hsa hbox
  go_enter Try.func21, Try.ntmps21
  go_wp2_with fail
  refine HI.out.mono ?_
  rintro x w1 ⟨v1, rfl, hs1, hk1⟩
  obtain ⟨k1, k2⟩ := HBOX.out w1 hk1
  have hlab1 := HH.out.keep hk1 (fun b hg hlt ha => HG.out b hg.1 hg.2 ha)
  have HP := Lib.hid (putLabels_any hs1 hlab1 (fun b hg _ ha => by
    rcases (hs1.at ha).1 with h | h
    · exact HG.out b hg.1 hg.2 h
    · rw [HSA.out] at h; have := hg.2; omega) HM.out.labs (by rw [List.length_append]; omega))
  have HS1 := Lib.hid hs1
  have HK1 := Lib.hid hk1
  clear hs1 hk1 hlab1 HI k2
  go_wp2_with fail
  refine HP.out.mono ?_
  rintro x w2 hp2
  obtain ⟨v2, he2, hs2, hk2⟩ := PutPost.then HS1.out HK1.out (Keep.refl _ _) hp2
  subst he2
  obtain ⟨_, k2⟩ := HBOX.out w2 hk2
  have HT := Lib.hid (text_put e.line (by omega) _ _ _ hs2 (by simp only [List.length_append]; omega))
  have HS2 := Lib.hid hs2
  have HK2 := Lib.hid hk2
  clear hs2 hk2 hp2 HP k1
  go_wp2_with fail
  refine HT.out.mono ?_
  rintro x w3 hp3
  obtain ⟨v3, he3, hs3, hk3⟩ := PutPost.base (PutPost.then HS2.out HK2.out (Keep.refl _ _) hp3) HL0.out
  subst he3
  have HS3 := Lib.hid hs3
  have HK3 := Lib.hid hk3
  clear hs3 hk3 hp3 HT
  go_wp2_with fail
  go_ret
  refine ⟨v3, rfl, ?_, HK3.out⟩
  have := HS3.out
  unfold Ent.bytes
  simpa using this

set_option maxHeartbeats 2000000 in
set_option maxRecDepth 100000 in
/-- record.Stream. -/
theorem stream_any {G : Nat → Prop} {w : World} {lv : Value} {e : Ent} (h : LabsAt G w lv e.labs) (hm : LabsMod e.labs) (s : ByteArray) (hs : s.data.toList = labsB e.labs) :
    Calls Try.prog 19 #[e.val lv] w fun x w' => x = .returned (.string s) ∧ Lay w w' := by
  obtain ⟨a, ca, rfl, _⟩ := id h
  have HL0 : Hid (Lay w (w.alloc (.cells #[.int .i64 e.tm, .slice a e.labs.length ca, .string e.line] 24))) := Lib.hid ((Keep.refl _ _).alloc _)
  have hno : ∀ b, ¬ At (.slice none 0 0) b := fun b ha => by obtain ⟨n, c, e⟩ := ha; cases e
  have HNO := Lib.hid hno
  have hnil : By (fun _ => True) (w.alloc (.cells #[.int .i64 e.tm, .slice a e.labs.length ca, .string e.line] 24)) (.slice none 0 0) [] := Rk.nil 1 (fun _ => True) _
  have HP := Lib.hid (putLabels_any (sv := .slice none 0 0) (l := []) hnil (h.lay HL0.out) (fun b _ _ ha => hno b ha) hm (by decide))
  have HS := Lib.hid hs
  unfold Ent.val
  clear h hm hs hno hnil
  go_enter Try.func19, Try.ntmps19
  go_wp2_with fail
  refine HP.out.mono ?_
  rintro x w1 ⟨v1, rfl, hs1, hk1⟩
  have hc := bs_string_of hs1.bs s (by rw [HS.out]; rfl)
  have HK := Lib.hid (Keep.trans HL0.out (hk1.into fun b _ ha => HNO.out b ha))
  clear hs1 hk1
  go_wp2_with fail
  go_ret
  exact ⟨rfl, HK.out⟩

end Go.Proofs.Ytgcldnojmdabpaa
