/-
  Nm.
-/
import Derived.Test.YtoobjjpheegmdaaGreatJ03
import Derived.Lib.Varint
import Derived.Lib.VarintBits
import Derived.Lib.VarintMem
import Derived.Lib.Zigzag
import Derived.WalkKit
import Derived.WalkSpells
import Derived.WalkLawsBesides
import Derived.Deep.Upon
import Derived.Lib.ConvBytes
import Derived.Lib.Hide
import Derived.Sort.Grow
import Derived.WalkSmall
import Derived.Lib.Small
import Derived.Lib.Bytes
import Derived.Lib.DecodeN
import Derived.Lib.Strings
import Derived.Deep.QuietTactic
import Derived.BigQuiet
import Derived.Lib.OthersKept
import Derived.Lib.Walk
import Derived.Outline
import Derived.Lib.BitFns
import Derived.Lib.EndianBits
import Derived.Lib.VarintDec
namespace Go.Proofs.YtoobjjpheegmdaaGreat.E4.M
open Go
def low : List UInt8 → Nat
  | [] => 0
  | c :: r => c.toNat % 128 + 128 * low r
def Cont (l : List UInt8) : Prop := ∀ c ∈ l, 128 ≤ c.toNat
theorem low_append (l m : List UInt8) : low (l ++ m) = low l + 128 ^ l.length * low m := by
  induction l with
  | nil => simp [low]
  | cons c r ih =>
    simp only [List.cons_append, low, List.length_cons, Nat.pow_succ, ih, Nat.mul_add]
    rw [Nat.mul_comm (128 ^ r.length) 128, Nat.mul_assoc]
    omega
theorem low_lt (l : List UInt8) : low l < 128 ^ l.length := by
  induction l with
  | nil => simp [low]
  | cons c r ih =>
    simp only [low, List.length_cons, Nat.pow_succ]
    have : c.toNat % 128 < 128 := Nat.mod_lt _ (by decide)
    omega
theorem low_one (c : UInt8) (h : c.toNat < 128) : low [c] = c.toNat := by
  simp [low, Nat.mod_eq_of_lt h]
theorem pow9 : (128 : Nat) ^ 9 = 9223372036854775808 := by decide
theorem of_put : ∀ (x : Nat), ∃ l0 c, Lib.uvarint x = l0 ++ [c] ∧ Cont l0 ∧ c.toNat < 128 ∧ (c.toNat ≠ 0 ∨ l0 = []) ∧ low (l0 ++ [c]) = x ∧ (l0 = [] ∨ 128 ≤ x) := by
  intro x
  induction x using Nat.strongRecOn with
  | _ x ih =>
    by_cases hx : x < 128
    · have hn : x.toUInt8.toNat = x := Lib.toUInt8_toNat (by omega)
      exact ⟨[], x.toUInt8, Lib.uvarint_small hx, (fun _ h => by cases h), by omega, .inr rfl, by rw [List.nil_append, low_one _ (by omega), hn], .inl rfl⟩
    · obtain ⟨l0, c, e, h0, hc, hz, hl, hb⟩ := ih (x / 128) (by omega)
      have hn : (x % 128 + 128).toUInt8.toNat = x % 128 + 128 := Lib.toUInt8_toNat (by omega)
      refine ⟨(x % 128 + 128).toUInt8 :: l0, c, by rw [Lib.uvarint_big (by omega), e, List.cons_append], ?_, hc, .inl ?_, ?_, .inr (by omega)⟩
      · intro d hd
        rcases List.mem_cons.1 hd with rfl | hd
        · omega
        · exact h0 d hd
      · rcases hz with hz | rfl
        · exact hz
        · rw [List.nil_append, low_one c hc] at hl
          omega
      · have e2 : low ((x % 128 + 128).toUInt8 :: l0 ++ [c]) = (x % 128 + 128).toUInt8.toNat % 128 + 128 * low (l0 ++ [c]) := rfl
        rw [e2, hl, hn]
        omega
theorem fits (l0 : List UInt8) (c : UInt8) (hc : c.toNat < 128) (h9 : l0.length ≤ 9) (h1 : l0.length = 9 → c.toNat ≤ 1) : low (l0 ++ [c]) < 18446744073709551616 := by
  rcases Nat.lt_or_ge l0.length 9 with h | h
  · have a := low_lt (l0 ++ [c])
    have b : 128 ^ (l0 ++ [c]).length ≤ 128 ^ 9 := Nat.pow_le_pow_right (by decide) (by simp; omega)
    have := pow9
    omega
  · have e : l0.length = 9 := by omega
    have a := low_lt l0
    rw [low_append, low_one c hc, e, pow9]
    rw [e, pow9] at a
    have := h1 e
    omega
theorem fits_of (l0 : List UInt8) (c : UInt8) (hc : c.toNat < 128) (hz : c.toNat ≠ 0 ∨ l0 = []) (hx : low (l0 ++ [c]) < 18446744073709551616) : l0.length ≤ 9 ∧ (l0.length = 9 → c.toNat ≤ 1) := by
  rw [low_append, low_one c hc] at hx
  have p9 := pow9
  refine ⟨?_, ?_⟩
  · rcases Nat.lt_or_ge 9 l0.length with h | h
    · exfalso
      have hc1 : 1 ≤ c.toNat := by
        rcases hz with hz | rfl
        · omega
        · simp at h
      have hp : 128 ^ 10 ≤ 128 ^ l0.length := Nat.pow_le_pow_right (by decide) h
      have p10 : (128 : Nat) ^ 10 = 1180591620717411303424 := by decide
      have : 128 ^ l0.length * 1 ≤ 128 ^ l0.length * c.toNat := Nat.mul_le_mul_left _ hc1
      omega
    · exact h
  · intro e
    rw [e, p9] at hx
    omega
structure IsNum (l0 : List UInt8) (c : UInt8) : Prop where
  cont : Cont l0
  last : c.toNat < 128
  short : c.toNat ≠ 0 ∨ l0 = []
  nine : l0.length ≤ 9
  one : l0.length = 9 → c.toNat ≤ 1
theorem IsNum.lt {l0 : List UInt8} {c : UInt8} (h : IsNum l0 c) : low (l0 ++ [c]) < 18446744073709551616 := fits l0 c h.last h.nine h.one
theorem isNum_of (x : Nat) (hx : x < 18446744073709551616) : ∃ l0 c, Lib.uvarint x = l0 ++ [c] ∧ IsNum l0 c ∧ low (l0 ++ [c]) = x := by
  obtain ⟨l0, c, e, h0, hc, hz, hl, _⟩ := of_put x
  have hf := fits_of l0 c hc hz (by rw [hl]; exact hx)
  exact ⟨l0, c, e, ⟨h0, hc, hz, hf.1, hf.2⟩, hl⟩
theorem parts_unique {l0 m0 : List UInt8} {c d : UInt8} {r t : List UInt8} (h0 : Cont l0) (hc : c.toNat < 128) (k0 : Cont m0) (kd : d.toNat < 128) (e : l0 ++ c :: r = m0 ++ d :: t) : l0 = m0 ∧ c = d ∧ r = t := by
  induction l0 generalizing m0 with
  | nil =>
    cases m0 with
    | nil => simpa using e
    | cons b m =>
      simp at e
      have := k0 b (by simp)
      rw [← e.1] at this
      omega
  | cons a l ih =>
    cases m0 with
    | nil =>
      simp at e
      have := h0 a (by simp)
      rw [e.1] at this
      omega
    | cons b m =>
      simp only [List.cons_append, List.cons.injEq] at e
      obtain ⟨rfl, e⟩ := e
      have := ih (fun x hx => h0 x (by simp [hx])) (fun x hx => k0 x (by simp [hx])) e
      exact ⟨by rw [this.1], this.2⟩
end Go.Proofs.YtoobjjpheegmdaaGreat.E4.M
namespace Go.Proofs.YtoobjjpheegmdaaGreat.E4
open Go.RowKit Go
theorem info5 : (Tryz.prog.info? 5).map (fun i => (i.zero, i.size, i.bytes)) = some (some (.int .u8 0), 1, 1) := by kernel_rfl
theorem cellsOf_length (l : List UInt8) : (cellsOf l).length = l.length := by simp [cellsOf]
def Bs (B : Nat) (w : World) (v : Value) (l : List UInt8) : Prop :=
  (v = .slice none 0 0 ∧ l = []) ∨
  ∃ g cap, v = .slice (some ⟨g, 0, none⟩) l.length cap ∧ B ≤ g ∧ g < w.heap.size ∧ l.length ≤ cap ∧ cap ≤ maxLen ∧
    (∀ j, j < l.length → w.cell? ⟨g, j, none⟩ = (cellsOf l)[j]?) ∧
    (∀ j, j < cap → (w.cell? ⟨g, j, none⟩).isSome = true ∧ w.frozen? ⟨g, j, none⟩ = false)
theorem src_one (w : World) (c : UInt8) (n : Int) (hn : n = (c.toNat : Int)) : Src Tryz.prog 1 100 (.slice (some ⟨w.heap.size, 0, none⟩) 1 1) [c].length (cellsOf [c]) (w.alloc (.cells #[.int .u8 n] 5)) := by
  subst hn
  refine Src.ofSlice _ Tryz.underlying100 ⟨w.heap.size, 0, none⟩ 1 1 (cellsOf [c]) (by simp [cellsOf]) (fun j u hu => ?_) (fun u hu => ?_)
  · match j, hu with
    | 0, hu => simp [cellsOf] at hu; subst hu; simp [Addr.add]
  · simp [cellsOf] at hu; subst hu; rfl
theorem src_string (w : World) (s : ByteArray) : Src Tryz.prog 1 9 (.string s) s.data.toList.length (cellsOf s.data.toList) w := by
  have h := Src.ofString (P := Tryz.prog) w (tx := 9) Tryz.underlying9 s
  have e : s.data.toList.length = s.size := Array.length_toList
  rw [e]
  exact h
end Go.Proofs.YtoobjjpheegmdaaGreat.E4
namespace Go.Proofs.YtoobjjpheegmdaaGreat.E4
open Go.RowKit Go
theorem Keep.below {G : Nat → Prop} {B : Nat} {w w' : World} (h : Keep G w w') (hG : ∀ k, G k → B ≤ k) (hB : B ≤ w.heap.size) : Below B w w' :=
  ⟨h.os, h.tape, h.output, h.size, fun k hk => h.block k (by omega) (fun hg => by have := hG k hg; omega)⟩
theorem Lay.below {w w' : World} (h : Lay w w') : Below w.heap.size w w' := Keep.below h (fun _ h => h.elim) (Nat.le_refl _)
end Go.Proofs.YtoobjjpheegmdaaGreat.E4
namespace Go.Proofs.YtoobjjpheegmdaaGreat.E4
open Go.RowKit Go
end Go.Proofs.YtoobjjpheegmdaaGreat.E4
namespace Go.Proofs.YtoobjjpheegmdaaGreat.E4.MW
open Go
def letter (c : Nat) : Bool := if 128 ≤ c then c != 65533 else (decide (97 ≤ c) && decide (c ≤ 122)) || (decide (65 ≤ c) && decide (c ≤ 90)) || (decide (48 ≤ c) && decide (c ≤ 57)) || c == 95
def dec (l : List UInt8) : Nat × Nat := Lib.decodeN l.length (l.getD 0 0).toNat (l.getD 1 0).toNat (l.getD 2 0).toNat (l.getD 3 0).toNat
theorem get_getD (s : ByteArray) (i : Nat) : s.get! i = s.data.toList.getD i 0 := by
  simp only [ByteArray.get!, List.getD_eq_getElem?_getD, Array.getElem?_toList]
  rw [getElem!_def]
  cases s.data[i]? <;> rfl
theorem dec_at (s : ByteArray) (i : Nat) : Utf8.decode s i = dec (s.data.toList.drop i) := by
  have e : ∀ k, s.get! (i + k) = (s.data.toList.drop i).getD k 0 := fun k => by
    rw [get_getD]
    simp [List.getD_eq_getElem?_getD]
  have e0 := e 0
  rw [Nat.add_zero] at e0
  rw [Lib.decode_at s i, e0, e 1, e 2, e 3]
  unfold dec
  rw [List.length_drop]
  rfl
theorem dec_pos (l : List UInt8) : 1 ≤ (dec l).2 := by
  unfold dec Lib.decodeN
  repeat' split
  all_goals simp
theorem dec_le (l : List UInt8) (h : l ≠ []) : (dec l).2 ≤ l.length := by
  have hp := List.length_pos_iff.2 h
  unfold dec Lib.decodeN
  repeat' split
  all_goals simp only
  all_goals omega
theorem drop_lt (l : List UInt8) (h : l ≠ []) : (l.drop (dec l).2).length < l.length := by
  have := dec_pos l
  have := List.length_pos_iff.2 h
  rw [List.length_drop]
  omega
def af : Nat → List UInt8 → Bool
  | 0, _ => true
  | f + 1, l => if l = [] then true else letter (dec l).1 && af f (l.drop (dec l).2)
theorem af_fuel : ∀ (n : Nat) (l : List UInt8) (f g : Nat), l.length ≤ n → l.length ≤ f → l.length ≤ g → af f l = af g l := by
  intro n
  induction n with
  | zero =>
    intro l f g h _ _
    obtain rfl := List.length_eq_zero_iff.1 (Nat.le_zero.1 h)
    cases f <;> cases g <;> simp [af]
  | succ n ih =>
    intro l f g h hf hg
    by_cases hl : l = []
    · subst hl; cases f <;> cases g <;> simp [af]
    · have hd := drop_lt l hl
      have hp := List.length_pos_iff.2 hl
      obtain ⟨f, rfl⟩ : ∃ k, f = k + 1 := ⟨f - 1, by omega⟩
      obtain ⟨g, rfl⟩ : ∃ k, g = k + 1 := ⟨g - 1, by omega⟩
      simp only [af, if_neg hl]
      rw [ih _ f g (by omega) (by omega) (by omega)]
def all (l : List UInt8) : Bool := af l.length l
theorem all_cons (l : List UInt8) (hl : l ≠ []) : all l = (letter (dec l).1 && all (l.drop (dec l).2)) := by
  have hd := drop_lt l hl
  have hp := List.length_pos_iff.2 hl
  unfold all
  obtain ⟨n, hn⟩ : ∃ n, l.length = n + 1 := ⟨l.length - 1, by omega⟩
  rw [hn]
  simp only [af, if_neg hl]
  rw [af_fuel n _ _ _ (by omega) (by omega) (Nat.le_refl _)]
def is (l : List UInt8) : Bool := all l && !l.isEmpty
theorem dec_drop {l : List UInt8} {pos : Nat} (h : pos < l.length) : 1 ≤ (dec (l.drop pos)).2 ∧ pos + (dec (l.drop pos)).2 ≤ l.length := by
  have h1 := dec_pos (l.drop pos)
  have h2 := dec_le (l.drop pos) (by intro e; have := congrArg List.length e; simp at this; omega)
  rw [List.length_drop] at h2
  omega
def ch (c : UInt8) : Bool := c == 95 || (decide (48 ≤ c.toNat) && decide (c.toNat ≤ 57)) || (decide (97 ≤ c.toNat) && decide (c.toNat ≤ 122)) || (decide (65 ≤ c.toNat) && decide (c.toNat ≤ 90))
def dig (c : UInt8) : Bool := decide (48 ≤ c.toNat) && decide (c.toNat ≤ 57)
def low (c : UInt8) : Bool := decide (c.toNat < 128)
theorem ch_low (c : UInt8) (h : ch c = true) : low c = true := by
  unfold ch at h
  unfold low
  have h95 : (c == 95) = true → c.toNat = 95 := fun h => by rw [eq_of_beq h]; rfl
  simp only [Bool.or_eq_true, Bool.and_eq_true, decide_eq_true_eq] at h ⊢
  rcases h with ((h | h) | h) | h
  · have := h95 h; omega
  all_goals omega
theorem letter_ch (c : UInt8) (h : c.toNat < 128) : letter c.toNat = ch c := by
  unfold letter ch
  rw [if_neg (by omega)]
  have h95 : (c == 95) = (c.toNat == 95) := by
    rw [Bool.eq_iff_iff]
    simp only [beq_iff_eq]
    exact ⟨fun h => by rw [h]; rfl, fun h => UInt8.toNat_inj.1 h⟩
  rw [h95, Bool.eq_iff_iff]
  simp
  omega
theorem dec_low (b : UInt8) (r : List UInt8) (h : b.toNat < 128) : dec (b :: r) = (b.toNat, 1) := by
  unfold dec
  rw [Lib.decodeN]
  simp [h]
theorem all_low : ∀ (l : List UInt8), l.all low = true → all l = l.all ch
  | [], _ => rfl
  | b :: r, h => by
    rw [List.all_cons, Bool.and_eq_true] at h
    have hb : b.toNat < 128 := of_decide_eq_true h.1
    rw [all_cons _ (by simp), dec_low b r hb, List.all_cons, letter_ch b hb]
    rw [List.drop_succ_cons, List.drop_zero, all_low r h.2]
def name (l : List UInt8) : Bool := !l.isEmpty && decide (l.length ≤ 20) && !dig (l.headD 0) && l.all ch
theorem name_of (l : List UInt8) (h : l.length ≤ 20) (hl : l.all low = true) : name l = (is l && !dig (l.headD 0)) := by
  unfold name is
  rw [all_low l hl]
  cases l.isEmpty <;> cases dig (l.headD 0) <;> cases l.all ch <;> simp [h]
theorem name_long (l : List UInt8) (h : ¬ l.length ≤ 20) : name l = false := by unfold name; simp [h]
theorem name_is (l : List UInt8) (hl : l.all low = true) (h : is l = false) : name l = false := by
  unfold is at h
  rw [all_low l hl] at h
  unfold name
  cases h1 : l.isEmpty <;> cases h2 : l.all ch <;> simp_all
theorem name_high (l : List UInt8) (hl : l.all low = false) : name l = false := by
  unfold name
  have : l.all ch = false := by
    rw [Bool.eq_false_iff]
    intro h
    rw [Bool.eq_false_iff] at hl
    refine hl (List.all_eq_true.2 fun c hc => ch_low c (List.all_eq_true.1 h c hc))
  rw [this, Bool.and_false]
end Go.Proofs.YtoobjjpheegmdaaGreat.E4.MW
namespace Go.Proofs.YtoobjjpheegmdaaGreat.E4
open Go.RowKit Go
theorem iterPos_of {w : World} {k : Nat} {s : ByteArray} {pos : Nat} (h : w.heap[k]? = some (.stringIter s pos)) : w.iterPos k = pos := by simp [World.iterPos, h]
theorem Lay.iterAt {a w : World} (h : Lay a w) {k : Nat} (hk : a.heap.size ≤ k) (s : ByteArray) (p : Nat) : Lay a (w.iterAt k s p) :=
  have b := Lib.below_iterAt (Lay.below h) (k := k) hk s p
  ⟨b.os, b.tape, b.output, b.size, h.drawn, fun k hk _ => b.block k hk⟩
def letterI (c : Int) : Bool := if 128 ≤ c then c != 65533 else (decide (97 ≤ c) && decide (c ≤ 122)) || (decide (65 ≤ c) && decide (c ≤ 90)) || (decide (48 ≤ c) && decide (c ≤ 57)) || c == 95
theorem letterI_nat (n : Nat) : letterI n = MW.letter n := by
  unfold letterI MW.letter
  by_cases h : 128 ≤ n
  · rw [if_pos h, if_pos (by omega)]
    rw [Bool.eq_iff_iff]; simp; omega
  · rw [if_neg h, if_neg (by omega)]
    rw [Bool.eq_iff_iff]; simp; omega
theorem letterI_iff (c : Int) : letterI c = true ↔ (128 ≤ c ∧ c ≠ 65533) ∨ (97 ≤ c ∧ c ≤ 122) ∨ (65 ≤ c ∧ c ≤ 90) ∨ (48 ≤ c ∧ c ≤ 57) ∨ c = 95 := by
  unfold letterI
  split
  · simp; omega
  · simp; omega
set_option maxHeartbeats 1000000 in
theorem letter_any (c : Int) (w : World) : Calls Tryz.prog 44 #[.int .i32 c] w fun e w' => e = .returned (.bool (letterI c)) ∧ w = w' := by
  go_enter Tryz.func44, Tryz.ntmps44
  go_wp2
  all_goals
    go_ret
    refine ⟨ret_bool ?_, rfl⟩
    rw [Bool.eq_iff_iff, letterI_iff]
    simp
    try omega
theorem letter_nat (c : Nat) (b : Bool) (h : MW.letter c = b) (w : World) : Calls Tryz.prog 44 #[.int .i32 c] w fun e w' => e = .returned (.bool b) ∧ w = w' := by
  rw [← h, ← letterI_nat]
  exact letter_any c w
theorem next_at (w : World) (k : Nat) (s : ByteArray) (pos : Nat) (ty : TypeId) (hk : w.heap[k]? = some (.stringIter s pos)) (h : pos < s.size) (c n : Nat) (hd : MW.dec (s.data.toList.drop pos) = (c, n)) :
    (Instr.next (.pointer (some ⟨k, 0, none⟩)) true ty).run Tryz.prog w = .ok (.tuple #[.bool true, .int .i64 pos, .int .i32 c]) (w.iterAt k s (pos + n)) := by
  have := Lib.run_next_any_at (P := Tryz.prog) w k s pos ty hk h
  rw [MW.dec_at, hd] at this
  exact this
set_option maxHeartbeats 1000000 in
theorem is_any (s : ByteArray) (_hlen : s.size ≤ 70368744177664) (w : World) : Calls Tryz.prog 40 #[.string s] w fun e w' => e = .returned (.bool (MW.is s.data.toList)) ∧ Lay w w' := by
  have hsz : s.data.toList.length = s.size := Array.length_toList
  have HZ := Lib.hid hsz
  clear hsz
  go_enter Tryz.func40, Tryz.ntmps40
  go_wp2
  go_loopw [] (fun wr => ∃ pos : Nat, wr.heap[w.heap.size]? = some (.stringIter s pos) ∧ Lay w wr ∧ pos ≤ s.size ∧ MW.all s.data.toList = MW.all (s.data.toList.drop pos)) (fun wr => s.size - wr.iterPos w.heap.size)
  case atStart => exact ⟨0, World.iter_heap w s 0, (Keep.refl _ _).alloc _, Nat.zero_le _, rfl⟩
  case round =>
    obtain ⟨pos, hit, hb, hp, ha⟩ := hrel
    by_cases hlt : pos < s.size
    · obtain ⟨c, n, hd⟩ : ∃ c n, MW.dec (s.data.toList.drop pos) = (c, n) := ⟨_, _, rfl⟩
      have hdd := MW.dec_drop (l := s.data.toList) (pos := pos) (by rw [HZ.out]; exact hlt)
      rw [hd, HZ.out] at hdd
      have hac := MW.all_cons (s.data.toList.drop pos) (fun e => by have := congrArg List.length e; simp at this; omega)
      rw [hd, List.drop_drop] at hac
      have HA := Lib.hid ha
      have HAC := Lib.hid hac
      have HIT := Lib.hid (Lib.iterAt_heap wr _ s pos (pos + n) hit)
      have hnx := fun ty => next_at wr _ s pos ty hit hlt c n hd
      have HB := Lib.hid (hb.iterAt (k := w.heap.size) (Nat.le_refl _) s (pos + n))
      have HP0 := Lib.hid (iterPos_of hit)
      have HP1 := Lib.hid (iterPos_of HIT.out)
      clear ha hac hd hit hb
      by_cases hl : MW.letter c = true
      · have HL := Lib.hid (letter_nat c true hl (wr.iterAt w.heap.size s (pos + n)))
        have HL0 := Lib.hid hl
        clear hl
        go_wp2_with (go_at_call 44; refine HL.out.mono ?_; rintro e w' ⟨rfl, rfl⟩)
        go_roundw
        case rel => exact ⟨pos + n, HIT.out, HB.out, hdd.2, by rw [HA.out, HAC.out, HL0.out]; rfl⟩
        case measure => rw [HP0.out, HP1.out]; omega
      · have hl := Bool.eq_false_iff.2 hl
        have HL := Lib.hid (letter_nat c false hl (wr.iterAt w.heap.size s (pos + n)))
        have HL0 := Lib.hid hl
        clear hl
        go_wp2_with (go_at_call 44; refine HL.out.mono ?_; rintro e w' ⟨rfl, rfl⟩)
        go_ret
        refine ⟨ret_bool ?_, HB.out⟩
        unfold MW.is
        rw [HA.out, HAC.out, HL0.out]
        rfl
    · obtain rfl : pos = s.size := by omega
      have hnx := fun ty => Lib.run_next_end_at (P := Tryz.prog) wr _ s s.size ty hit hlt
      have HA := Lib.hid ha
      have HB := Lib.hid hb
      clear ha hb hit
      go_wp2
      go_ret
      refine ⟨ret_bool ?_, HB.out⟩
      unfold MW.is
      rw [HA.out, List.drop_of_length_le (by rw [HZ.out]; exact Nat.le_refl _)]
      rw [ByteArray.toList_eq]
      rfl
theorem idx_run (S : ByteArray) (ix bv : Nat) (hx : ix < S.size) (hb : S[ix].toNat = bv) (w : World) : (Instr.index 9 (.string S) (.int .i64 (ix : Int))).run Tryz.prog w = .ok (.int .u8 (bv : Int)) w := by
  have h : 0 ≤ (ix : Int) ∧ (ix : Int) < S.size := ⟨by omega, by omega⟩
  have e := run_index_string (P := Tryz.prog) (w := w) 9 S .i64 ix Tryz.underlying9
  rw [dif_pos h] at e
  subst hb
  exact e
theorem byte_drop (s : ByteArray) (k : Nat) (h : k < s.size) : s.data.toList.drop k = s[k] :: s.data.toList.drop (k + 1) := by
  have hl : k < s.data.toList.length := by rw [← Lib.size_eq]; exact h
  rw [List.drop_eq_getElem_cons hl]
  rfl
set_option maxHeartbeats 1000000 in
theorem digit_any (c : UInt8) (w : World) : Calls Tryz.prog 42 #[.int .u8 c.toNat] w fun e w' => e = .returned (.bool (MW.dig c)) ∧ w' = w := by
  unfold MW.dig
  generalize c.toNat = n
  by_cases h1 : 48 ≤ n
  · by_cases h2 : n ≤ 57
    · go_enter Tryz.func42, Tryz.ntmps42
      go_wp2
      go_ret
      exact ⟨by simp [h1, h2]; omega, rfl⟩
    · go_enter Tryz.func42, Tryz.ntmps42
      go_wp2
      go_ret
      exact ⟨by simp [h1, h2]; omega, rfl⟩
  · go_enter Tryz.func42, Tryz.ntmps42
    go_wp2
    go_ret
    exact ⟨by simp, rfl⟩
set_option maxHeartbeats 1000000 in
set_option maxRecDepth 100000 in
theorem plain_any (s : ByteArray) (hs : s.size ≤ 1000000) (w : World) : Calls Tryz.prog 41 #[.string s] w fun e w' => e = .returned (.bool (s.data.toList.all MW.low)) ∧ w' = w := by
  go_enter Tryz.func41, Tryz.ntmps41
  go_wp2_with fail
  go_loopw [6] (fun vi wr => ∃ k : Nat, vi = .int .i64 k ∧ k ≤ s.size ∧ wr = w ∧ s.data.toList.all MW.low = (s.data.toList.drop k).all MW.low) (fun vi _ => s.size - (intOf vi).toNat)
  case atStart => exact ⟨0, rfl, Nat.zero_le _, rfl, by simp⟩
  case round =>
    obtain ⟨k, rfl, hk, rfl, hz⟩ := hrel
    have HZ := Lib.hid hz
    clear hz
    by_cases hlt : k < s.size
    · have HD := Lib.hid (byte_drop s k hlt)
      obtain ⟨c, hc⟩ : ∃ c, c = s[k] := ⟨_, rfl⟩
      obtain ⟨n, hn⟩ : ∃ n, s[k].toNat = n := ⟨_, rfl⟩
      have HN := Lib.hid hn
      have hix := fun w => idx_run s k n hlt hn w
      rw [← hc] at HD hn
      have HC := Lib.hid hn
      clear hc hn HN
      by_cases h : 128 ≤ n
      · go_wp2_with fail
        go_ret
        refine ⟨ret_bool ?_, rfl⟩
        rw [HZ.out, HD.out, List.all_cons, show MW.low c = false from by unfold MW.low; rw [HC.out]; simp; omega]
        rfl
      · go_wp2_with fail
        go_roundw
        case rel =>
          refine ⟨k + 1, by go_num, by omega, by trivial, ?_⟩
          rw [HZ.out, HD.out, List.all_cons, show MW.low c = true from by unfold MW.low; rw [HC.out]; simp; omega, Bool.true_and]
        case measure => simp [intOf]; omega
    · obtain rfl : k = s.size := by omega
      go_wp2_with fail
      go_ret
      refine ⟨?_, rfl⟩
      rw [HZ.out, List.drop_of_length_le (by rw [← Lib.size_eq]; exact Nat.le_refl _)]
      rfl
theorem is_empty (l : List UInt8) (h : MW.is l = true) : l ≠ [] := by
  rintro rfl
  cases h
set_option maxHeartbeats 2000000 in
theorem name_any (s : ByteArray) (w : World) : Calls Tryz.prog 38 #[.string s] w fun e w' => e = .returned (.bool (MW.name s.data.toList)) ∧ Lay w w' := by
  have hsz : s.data.toList.length = s.size := (Lib.size_eq s).symm
  by_cases h20 : s.size ≤ 20
  · have h20' : s.data.toList.length ≤ 20 := by omega
    cases hI : MW.is s.data.toList with
    | false =>
      have HI := Lib.hid hI
      have hr : MW.name s.data.toList = false := by
        cases hl : s.data.toList.all MW.low with
        | false => exact MW.name_high _ hl
        | true => exact MW.name_is _ hl hI
      have HR := Lib.hid hr
      clear hI hr hsz h20'
      go_enter Tryz.func38, Tryz.ntmps38
      go_wp2_with (go_at_call 40; refine (is_any s (by omega) _).mono ?_; rw [HI.out]; rintro e w' ⟨rfl, hl⟩)
      go_ret
      exact ⟨by rw [HR.out]; rfl, hl⟩
    | true =>
      have HI := Lib.hid hI
      cases hl : s.data.toList.all MW.low with
      | false =>
        have HP := Lib.hid hl
        have hr := MW.name_high _ hl
        have HR := Lib.hid hr
        clear hI hr hl hsz h20'
        go_enter Tryz.func38, Tryz.ntmps38
        go_wp2_with (first | (go_at_call 40; refine (is_any s (by omega) _).mono ?_; rw [HI.out]; rintro e w' ⟨rfl, hl⟩) | (go_at_call 41; refine (plain_any s (by omega) _).mono ?_; rw [HP.out]; rintro e w' ⟨rfl, rfl⟩))
        go_ret
        exact ⟨by rw [HR.out]; rfl, hl⟩
      | true =>
        have HP := Lib.hid hl
        have hr := MW.name_of _ h20' hl
        rw [hI, Bool.true_and] at hr
        have h0 : 0 < s.size := by
          have := is_empty _ hI
          rw [← hsz]
          exact List.length_pos_iff.2 this
        have hd : s.data.toList.headD 0 = s[0] := by
          have := byte_drop s 0 h0
          rw [List.drop_zero] at this
          rw [this]
          rfl
        rw [hd] at hr
        have HR := Lib.hid hr
        obtain ⟨n, hn⟩ : ∃ n, s[0].toNat = n := ⟨_, rfl⟩
        have hix : ∀ w, (Instr.index 9 (.string s) (.int .i64 0)).run Tryz.prog w = .ok (.int .u8 (n : Int)) w := fun w => idx_run s 0 n h0 hn w
        have hD : ∀ w, Calls Tryz.prog 42 #[.int .u8 (n : Int)] w fun e w' => e = .returned (.bool (MW.dig s[0])) ∧ w' = w := fun w => by rw [← hn]; exact digit_any s[0] w
        have HD := Lib.hid hD
        clear hI hr hl hsz h20' hd hn hD
        cases hg : MW.dig s[0]
        all_goals
          rw [hg] at HD HR
          clear hg
          go_enter Tryz.func38, Tryz.ntmps38
          go_wp2_with (first | (go_at_call 40; refine (is_any s (by omega) _).mono ?_; rw [HI.out]; rintro e w' ⟨rfl, hl⟩) | (go_at_call 41; refine (plain_any s (by omega) _).mono ?_; rw [HP.out]; rintro e w' ⟨rfl, rfl⟩) | (go_at_call 42; refine (HD.out _).mono ?_; rintro e w' ⟨rfl, rfl⟩))
          go_ret
          exact ⟨by rw [HR.out]; rfl, hl⟩
  · have hr := MW.name_long s.data.toList (by omega)
    have HR := Lib.hid hr
    clear hr hsz
    go_enter Tryz.func38, Tryz.ntmps38
    go_wp2_with fail
    go_ret
    exact ⟨by rw [HR.out]; rfl, Keep.refl _ _⟩
end Go.Proofs.YtoobjjpheegmdaaGreat.E4
namespace Go.Proofs.YtoobjjpheegmdaaGreat.E4
open Go.RowKit Go
def textB (s : List UInt8) : List UInt8 := Lib.uvarint s.length ++ s
end Go.Proofs.YtoobjjpheegmdaaGreat.E4
namespace Go.Proofs.YtoobjjpheegmdaaGreat.E4
open Go.RowKit Go
structure Rd (w : World) (g : Nat) (l : List UInt8) (bad : Bool) : Prop where
  str : ∃ s : ByteArray, s.data.toList = l ∧ w.cell? ⟨g, 0, none⟩ = some (.string s)
  isBad : w.cell? ⟨g, 1, none⟩ = some (.bool bad)
  f0 : w.frozen? ⟨g, 0, none⟩ = false
  f1 : w.frozen? ⟨g, 1, none⟩ = false
  len : l.length ≤ 70368744177664
structure Only (g : Nat) (w w' : World) : Prop where
  os : w'.os = w.os
  tape : w'.tape = w.tape
  output : w'.output = w.output
  size : w'.heap.size = w.heap.size
  block : ∀ k, k ≠ g → w'.heap[k]? = w.heap[k]?
theorem Only.refl (g : Nat) (w : World) : Only g w w := ⟨rfl, rfl, rfl, rfl, fun _ _ => rfl⟩
theorem Only.trans {g : Nat} {a b c : World} (h : Only g a b) (k : Only g b c) : Only g a c :=
  ⟨k.os.trans h.os, k.tape.trans h.tape, k.output.trans h.output, k.size.trans h.size, fun i hi => (k.block i hi).trans (h.block i hi)⟩
theorem Rd.carry {w w' : World} {g : Nat} {l : List UInt8} {bad : Bool} (h : Rd w g l bad) (hb : w'.heap[g]? = w.heap[g]?) : Rd w' g l bad := by
  have hc : ∀ o, w'.cell? ⟨g, o, none⟩ = w.cell? ⟨g, o, none⟩ := fun o => World.cell?_of_block (a := ⟨g, o, none⟩) hb
  have hf : ∀ o, w'.frozen? ⟨g, o, none⟩ = w.frozen? ⟨g, o, none⟩ := fun o => World.frozen?_of_block (a := ⟨g, o, none⟩) hb
  obtain ⟨⟨s, hs, h0⟩, h1, h2, h3, h4⟩ := h
  exact ⟨⟨s, hs, by rw [hc]; exact h0⟩, by rw [hc]; exact h1, by rw [hf]; exact h2, by rw [hf]; exact h3, h4⟩
theorem Rd.lt {w : World} {g : Nat} {l : List UInt8} {bad : Bool} (h : Rd w g l bad) : g < w.heap.size := by
  exact World.block_lt_of_cell? w ⟨g, 1, none⟩ h.isBad
inductive RU (most : Nat) : List UInt8 → Bool → Nat → List UInt8 → Bool → Prop
  | good (l0 : List UInt8) (c : UInt8) (r : List UInt8) (hn : M.IsNum l0 c) (hm : M.low (l0 ++ [c]) ≤ most) : RU most (l0 ++ c :: r) false (M.low (l0 ++ [c])) r false
  | none (l : List UInt8) (h : ∀ l0 c r, M.IsNum l0 c → l = l0 ++ c :: r → most < M.low (l0 ++ [c])) : RU most l false 0 [] true
  | bad (l : List UInt8) : RU most l true 0 l true
theorem RU.lt {most : Nat} {l : List UInt8} {bad : Bool} {n : Nat} {l' : List UInt8} {bad' : Bool} (h : RU most l bad n l' bad') : n < 18446744073709551616 := by
  cases h with
  | good l0 c r hn _ => exact hn.lt
  | none => decide
  | bad => decide
end Go.Proofs.YtoobjjpheegmdaaGreat.E4
namespace Go.Proofs.YtoobjjpheegmdaaGreat.E4
open Go.RowKit Go
structure Chg (g : Nat) (w w' : World) : Prop where
  os : w'.os = w.os
  tape : w'.tape = w.tape
  output : w'.output = w.output
  size : w.heap.size ≤ w'.heap.size
  block : ∀ k, k < w.heap.size → k ≠ g → w'.heap[k]? = w.heap[k]?
theorem Chg.trans {g : Nat} {a b c : World} (h : Chg g a b) (k : Chg g b c) : Chg g a c :=
  ⟨k.os.trans h.os, k.tape.trans h.tape, k.output.trans h.output, Nat.le_trans h.size k.size, fun i hi hn => (k.block i (Nat.lt_of_lt_of_le hi h.size) hn).trans (h.block i hi hn)⟩
theorem Chg.alloc (g : Nat) (w : World) (o : Obj) : Chg g w (w.alloc o) := ⟨rfl, rfl, rfl, by simp, fun k hk _ => Below.heap_alloc w o k hk⟩
theorem Rd.alloc {w : World} {g : Nat} {l : List UInt8} {bad : Bool} (h : Rd w g l bad) (o : Obj) : Rd (w.alloc o) g l bad := h.carry (Below.heap_alloc w o g h.lt)
end Go.Proofs.YtoobjjpheegmdaaGreat.E4
namespace Go.Proofs.YtoobjjpheegmdaaGreat.E4
open Go.RowKit Go
theorem elem5 : ∃ i, Elem Tryz.prog 100 5 i (.int .u8 0) 1 1 := by
  obtain ⟨i, hi, hz, hs, hb⟩ := info_parts info5
  exact ⟨i, Tryz.underlying100, hi, hz, hs, hb, by kernel_rfl⟩
theorem cellsOf_append (l m : List UInt8) : cellsOf (l ++ m) = cellsOf l ++ cellsOf m := by simp [cellsOf]
abbrev By (G : Nat → Prop) (w : World) (v : Value) (l : List UInt8) : Prop := Rk 1 G w v l.length (cellsOf l)
theorem By.of {G : Nat → Prop} {w : World} {v : Value} {n : Nat} {m : List UInt8} (h : Rk 1 G w v n (cellsOf m)) : By G w v m := by
  have hn := h.1
  rw [cellsOf_length] at hn
  obtain rfl : n = m.length := by omega
  exact h
def PutPost (sv : Value) (l : List UInt8) (w : World) (e : Ending) (w' : World) : Prop :=
  ∃ v', e = .returned v' ∧ By (fun b => At sv b ∨ w.heap.size ≤ b) w' v' l ∧ Keep (At sv) w w'
theorem Keep.step {sv vb : Value} {w wr w1 : World} (h : Keep (At sv) w wr) (k : Keep (At vb) wr w1) (ha : ∀ b, At vb b → At sv b ∨ w.heap.size ≤ b) : Keep (At sv) w w1 :=
  ⟨k.os.trans h.os, k.tape.trans h.tape, k.output.trans h.output, Nat.le_trans h.size k.size, Nat.le_trans h.drawn k.drawn, fun b hb hn =>
    (k.block b (Nat.lt_of_lt_of_le hb h.size) (fun hv => (ha b hv).elim hn (fun hle => by omega))).trans (h.block b hb hn)⟩
theorem PutPost.then {sv v1 : Value} {l l2 : List UInt8} {w w1 w2 : World} {e : Ending} (h1 : By (fun b => At sv b ∨ w.heap.size ≤ b) w1 v1 l) (k1 : Keep (At sv) w w1) {wx : World} (kx : Keep (At v1) w1 wx) (h2 : PutPost v1 l2 wx e w2) : PutPost sv l2 w e w2 := by
  obtain ⟨v', he, hb, hk⟩ := h2
  have hat : ∀ b, At v1 b → At sv b ∨ w.heap.size ≤ b := fun b hb => (h1.at hb).1
  refine ⟨v', he, hb.mono fun b hb _ => ?_, k1.step (kx.trans hk) hat⟩
  rcases hb with hb | hb
  · exact hat b hb
  · exact .inr (Nat.le_trans (Nat.le_trans k1.size kx.size) hb)
set_option maxHeartbeats 2000000 in
set_option maxRecDepth 100000 in
theorem uint_put {G : Nat → Prop} (x : Nat) (hx : x < 18446744073709551616) (sv : Value) (l : List UInt8) (w : World) (hown : By G w sv l) (hlim : l.length ≤ 70368744177664) :
    Calls Tryz.prog 94 #[sv, .int .u64 x] w (PutPost sv (l ++ Lib.uvarint x) w) := by
  obtain ⟨i5, E5⟩ := elem5
  have hlen := Lib.uvarint_length64 hx
  have hown0 : By (fun b => At sv b ∨ w.heap.size ≤ b) w sv l := hown.mono fun b _ ha => .inl ha
  clear hown
  go_enter Tryz.func94, Tryz.ntmps94
  go_wp2
  go_loopw [0, 1] (fun vb vx wr => ∃ (y : Nat) (pre : List UInt8), vx = .int .u64 y ∧ y ≤ x ∧ Lib.uvarint x = pre ++ Lib.uvarint y ∧ By (fun b => At sv b ∨ w.heap.size ≤ b) wr vb (l ++ pre) ∧ Keep (At sv) w wr)
    (fun _ vx _ => (intOf vx).toNat)
  case atStart => exact ⟨x, [], rfl, Nat.le_refl _, rfl, by simpa using hown0, Keep.refl _ _⟩
  case round =>
    obtain ⟨y, pre, rfl, hy, hsplit, hown1, hnx⟩ := hrel
    have hpl : pre.length + (Lib.uvarint y).length ≤ 10 := by
      have h2 := congrArg List.length hsplit
      rw [List.length_append] at h2
      omega
    have hyp := Lib.uvarint_pos y
    have hsz := hnx.size
    have HAT := Lib.hid (fun b hb => (hown1.at (b := b) hb).1)
    have HO := Lib.hid hown1
    have HK := Lib.hid hnx
    clear hown1 hnx hown0
    by_cases h128 : 128 ≤ y
    · have hor : bits .or .u8 ((y : Int) % 256) 128 = (y : Int) % 128 + 128 := by
        rw [Lib.u8_or128_any _ (by omega) (by omega)]
        omega
      have hc : ((y : Int) % 128 + 128) = (((y % 128 + 128).toUInt8.toNat : Nat) : Int) := by
        rw [Lib.toUInt8_toNat (by omega)]
        omega
      have HC := Lib.hid hc
      clear hc
      go_wp2_with (at_builtin; refine wpList_append_rk E5 _ rfl _ _ 100 rfl (G := fun b => At sv b ∨ w.heap.size ≤ b) rfl (HO.out.alloc _) ?c1 (.slice (some ⟨wr.heap.size, 0, none⟩) 1 1) 1 (cellsOf [(y % 128 + 128).toUInt8]) rfl (src_one wr _ _ ?c2) ?c3 ?c4 ?_)
      case c1 => intro b hb; simp at hb; right; omega
      case c2 => exact HC.out
      case c3 => simp; omega
      case c4 => simp; omega
      intro v' w1 hown' hbel
      have hk1 := HK.out.step (((Keep.refl _ wr).alloc _).trans hbel) HAT.out
      have HK1 := Lib.hid hk1
      have ho' : By (fun b => At sv b ∨ w.heap.size ≤ b) w1 v' (l ++ (pre ++ [(y % 128 + 128).toUInt8])) := by
        have := hown'.mono (G' := fun b => At sv b ∨ w.heap.size ≤ b) fun b hb _ => hb.1
        rw [← cellsOf_append, List.append_assoc] at this
        have h2 : Rk 1 (fun b => At sv b ∨ w.heap.size ≤ b) w1 v' (l.length + pre.length + 1) (cellsOf (l ++ (pre ++ [(y % 128 + 128).toUInt8]))) := by simpa using this
        exact By.of h2
      have HO' := Lib.hid ho'
      clear hown' hbel hk1 ho'
      go_wp2
      go_roundw
      case rel => exact ⟨y / 128, pre ++ [(y % 128 + 128).toUInt8], by go_num, by omega, by rw [hsplit, Lib.uvarint_big h128]; simp, HO'.out, HK1.out⟩
      case measure => simp [intOf]; omega
    · have hsm : Lib.uvarint y = [y.toUInt8] := Lib.uvarint_small (by omega)
      have hc : (y : Int) = ((y.toUInt8.toNat : Nat) : Int) := by
        rw [Lib.toUInt8_toNat (by omega)]
      have HC := Lib.hid hc
      clear hc
      have HS := Lib.hid hsm
      clear hsm
      go_wp2_with (at_builtin; refine wpList_append_rk E5 _ rfl _ _ 100 rfl (G := fun b => At sv b ∨ w.heap.size ≤ b) rfl (HO.out.alloc _) ?c1 (.slice (some ⟨wr.heap.size, 0, none⟩) 1 1) 1 (cellsOf [y.toUInt8]) rfl (src_one wr _ _ ?c2) ?c3 ?c4 ?_)
      case c1 => intro b hb; simp at hb; right; omega
      case c2 => exact HC.out
      case c3 => simp; omega
      case c4 => simp; omega
      intro v' w1 hown' hbel
      have HK1 := Lib.hid (HK.out.step (((Keep.refl _ wr).alloc _).trans hbel) HAT.out)
      have ho' : By (fun b => At sv b ∨ w.heap.size ≤ b) w1 v' (l ++ (pre ++ [y.toUInt8])) := by
        have := hown'.mono (G' := fun b => At sv b ∨ w.heap.size ≤ b) fun b hb _ => hb.1
        rw [← cellsOf_append, List.append_assoc] at this
        have h2 : Rk 1 (fun b => At sv b ∨ w.heap.size ≤ b) w1 v' (l.length + pre.length + 1) (cellsOf (l ++ (pre ++ [y.toUInt8]))) := by simpa using this
        exact By.of h2
      have HO' := Lib.hid ho'
      clear hown' hbel ho'
      go_wp2
      go_ret
      refine ⟨v', rfl, ?_, HK1.out⟩
      rw [hsplit, HS.out]
      exact HO'.out
set_option maxHeartbeats 1000000 in
theorem text_put {G : Nat → Prop} (s : ByteArray) (hs : s.size ≤ 35184372088832) (sv : Value) (l : List UInt8) (w : World) (hown : By G w sv l) (hlim : l.length ≤ 35184372088832) :
    Calls Tryz.prog 81 #[sv, .string s] w (PutPost sv (l ++ textB s.data.toList) w) := by
  obtain ⟨i5, E5⟩ := elem5
  have hU := uint_put s.size (by omega) sv l w hown (by omega)
  have hul := Lib.uvarint_length64 (x := s.size) (by omega)
  have hsl : s.data.toList.length = s.size := Array.length_toList
  have HU := Lib.hid hU
  have HL := Lib.hid hsl
  clear hU hsl hown
  go_enter Tryz.func81, Tryz.ntmps81
  go_wp2_with fail
  refine HU.out.mono ?_
  rintro e w1 ⟨v', rfl, ho, hb⟩
  have HAT := Lib.hid (fun b hb => (ho.at hb).1 : ∀ b, At v' b → At sv b ∨ w.heap.size ≤ b)
  have HO := Lib.hid ho
  have HB := Lib.hid hb
  have hsz := hb.size
  clear ho hb HU
  go_wp2_with (at_builtin; refine wpList_append_rk E5 _ rfl _ _ 9 rfl (G := fun b => At sv b ∨ w.heap.size ≤ b) rfl HO.out ?c1 (.string s) s.data.toList.length (cellsOf s.data.toList) rfl (src_string _ s) ?c3 ?c4 ?_)
  case c1 => intro b hb; right; omega
  case c3 => have := HL.out; simp only [List.length_append]; omega
  case c4 => have := HL.out; simp only [List.length_append]; omega
  intro v2 w2 ho2 hb2
  have HK1 := Lib.hid (HB.out.step hb2 HAT.out)
  have ho' : By (fun b => At sv b ∨ w.heap.size ≤ b) w2 v2 (l ++ textB s.data.toList) := by
    have := ho2.mono (G' := fun b => At sv b ∨ w.heap.size ≤ b) fun b hb _ => hb.1
    rw [← cellsOf_append, List.append_assoc] at this
    unfold textB
    rw [HL.out]
    exact By.of this
  have HO' := Lib.hid ho'
  clear ho2 hb2 ho'
  go_wp2
  go_ret
  exact ⟨v2, rfl, HO'.out, HK1.out⟩
end Go.Proofs.YtoobjjpheegmdaaGreat.E4
namespace Go.Proofs.YtoobjjpheegmdaaGreat.E4
open Go.RowKit Go
end Go.Proofs.YtoobjjpheegmdaaGreat.E4
