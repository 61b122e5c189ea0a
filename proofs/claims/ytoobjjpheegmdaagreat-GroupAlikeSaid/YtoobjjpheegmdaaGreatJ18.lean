/-
  Go12, LxA, LxS, OwA, Oq8, Gw12.
-/
import Derived.Test.YtoobjjpheegmdaaGreatJ10
import Derived.Test.YtoobjjpheegmdaaGreatJ09
import Derived.Test.YtoobjjpheegmdaaGreatJ06
import Derived.Test.YtoobjjpheegmdaaGreatJ02
import Derived.Lib.MapLaws
import Derived.Lib.RuneBytes
import Derived.Laws.Cover4
import Derived.OwnWalk
import Derived.Shelf.SlSortCmp.QuietGrown
import Derived.Lib.FrozenHead2
import Derived.Laws.OwnMore
import Derived.Laws.IdiomStrings
import Derived.Test.YtoobjjpheegmdaaGreatJ17
import Derived.Laws.EntriesVeiled
namespace Go.Proofs.YtoobjjpheegmdaaGreat.E4
open Go.RowKit Go
def smallW (w : ByteArray) : Bool := decide (w.size ≤ 1024)
def rowG (l : List ByteArray) : Bool := decide (l.length ≤ 64) && l.all smallW
def matG (isT : ByteArray → Bool) (m : Mt) : Bool := MW.name m.name.data.toList && decide (m.value.size ≤ 1024) && isT m.value
def Ask.inn (a : Ask) : Prop := (1 ≤ a.kd ∧ a.kd ≤ 3) ∧ (-1099511627776 ≤ a.src ∧ a.src ≤ 1099511627776) ∧ (-1099511627776 ≤ a.til ∧ a.til ≤ 1099511627776)
instance (a : Ask) : Decidable a.inn := by unfold Ask.inn; infer_instance
def Ask.good (isT : ByteArray → Bool) (a : Ask) : Bool := decide a.inn && (if a.kd = 1 then a.all.all rowG && decide (a.all.length ≤ 64) else if a.kd = 2 then a.mat.all (matG isT) && decide (a.mat.length ≤ 4) else true)
variable {isT : ByteArray → Bool}
theorem good_no {a : Ask} (h : a.kd < 1 ∨ 3 < a.kd ∨ 1099511627776 < a.src ∨ a.src < -1099511627776 ∨ 1099511627776 < a.til ∨ a.til < -1099511627776) : a.good isT = false := by
  unfold Ask.good
  rw [decide_eq_false (by unfold Ask.inn; omega)]
  rfl
theorem good_1 {a : Ask} (h : a.inn) (k : a.kd = 1) : a.good isT = (a.all.all rowG && decide (a.all.length ≤ 64)) := by
  unfold Ask.good
  rw [decide_eq_true h, if_pos k]
  rfl
theorem good_2 {a : Ask} (h : a.inn) (k : a.kd = 2) : a.good isT = (a.mat.all (matG isT) && decide (a.mat.length ≤ 4)) := by
  unfold Ask.good
  rw [decide_eq_true h, if_neg (by omega), if_pos k]
  rfl
theorem good_3 {a : Ask} (h : a.inn) (k1 : ¬ a.kd = 1) (k2 : ¬ a.kd = 2) : a.good isT = true := by
  unfold Ask.good
  rw [decide_eq_true h, if_neg k1, if_neg k2]
  rfl
end Go.Proofs.YtoobjjpheegmdaaGreat.E4
namespace Go.Proofs.YtoobjjpheegmdaaGreat.LX
open Go MW
def bad (l : List UInt8) : Bool := decide ((dec l).1 = 65533) && decide ((dec l).2 = 1)
def vf : Nat → List UInt8 → Nat
  | 0, _ => 0
  | f + 1, l => if l = [] then 0 else if bad l = true then 0 else (dec l).2 + vf f (l.drop (dec l).2)
theorem vf_fuel : ∀ (n : Nat) (l : List UInt8) (f g : Nat), l.length ≤ n → l.length ≤ f → l.length ≤ g → vf f l = vf g l := by
  intro n
  induction n with
  | zero =>
    intro l f g h _ _
    obtain rfl := List.length_eq_zero_iff.1 (Nat.le_zero.1 h)
    cases f <;> cases g <;> simp [vf]
  | succ n ih =>
    intro l f g h hf hg
    by_cases hl : l = []
    · subst hl; cases f <;> cases g <;> simp [vf]
    · have hd := drop_lt l hl
      have hp := List.length_pos_iff.2 hl
      obtain ⟨f, rfl⟩ : ∃ k, f = k + 1 := ⟨f - 1, by omega⟩
      obtain ⟨g, rfl⟩ : ∃ k, g = k + 1 := ⟨g - 1, by omega⟩
      simp only [vf, if_neg hl]
      rw [ih _ f g (by omega) (by omega) (by omega)]
def valid (l : List UInt8) : Nat := vf l.length l
theorem valid_bad (l : List UInt8) (h : bad l = true) : valid l = 0 := by
  unfold valid
  cases hl : l.length with
  | zero => rfl
  | succ n => simp [vf, h]
theorem valid_step (l : List UInt8) (hl : l ≠ []) (h : bad l = false) : valid l = (dec l).2 + valid (l.drop (dec l).2) := by
  have hd := drop_lt l hl
  have hp := List.length_pos_iff.2 hl
  unfold valid
  obtain ⟨n, hn⟩ : ∃ n, l.length = n + 1 := ⟨l.length - 1, by omega⟩
  rw [hn]
  simp only [vf, if_neg hl, h, Bool.false_eq_true, if_false]
  rw [vf_fuel n _ _ _ (by omega) (by omega) (Nat.le_refl _)]
def isText (l : List UInt8) : Bool := !l.contains 10 && decide (valid l = l.length)
end Go.Proofs.YtoobjjpheegmdaaGreat.LX
namespace Go.Proofs.YtoobjjpheegmdaaGreat.LX
open Go MW
end Go.Proofs.YtoobjjpheegmdaaGreat.LX
namespace Go.Proofs.YtoobjjpheegmdaaGreat.LX
open Go MW Lib
end Go.Proofs.YtoobjjpheegmdaaGreat.LX
namespace Go.Proofs.YtoobjjpheegmdaaGreat.LX
open Go MW Lib
end Go.Proofs.YtoobjjpheegmdaaGreat.LX
namespace Go.Proofs.YtoobjjpheegmdaaGreat
open Go.RowKit Go
end Go.Proofs.YtoobjjpheegmdaaGreat
namespace Go.Proofs.YtoobjjpheegmdaaGreat
open Go.RowKit Go
end Go.Proofs.YtoobjjpheegmdaaGreat
namespace Go.Proofs.YtoobjjpheegmdaaGreat
open Go.RowKit Go
theorem decodeGo_at (s : ByteArray) (pos : Nat) (h : pos < s.size) : Lib.decodeGo (s.extract pos s.size) = MW.dec (s.data.toList.drop pos) := by
  have hsz : (s.extract pos s.size).size = s.size - pos := by simp [ByteArray.size_extract]
  unfold Lib.decodeGo
  rw [if_neg (by omega), MW.dec_at, List.drop_zero]
  congr 1
  rw [ByteArray.data_extract]
  have e : s.data.toList.length = s.size := Array.length_toList
  simp [List.extract_eq_take_drop]
  rw [List.take_of_length_le]
  rw [List.length_drop, e]
  exact Nat.le_refl _
theorem decode_call (s : ByteArray) (pos : Nat) (h : pos < s.size) (c n : Nat) (hd : MW.dec (s.data.toList.drop pos) = (c, n)) (w : World) (hT : Lib.Utf8Tabs 1 2 w) :
    Calls Tryz.prog 133 #[.string (s.extract pos s.size)] w fun e w' => e = .returned (.tuple #[.int .i32 c, .int .i64 n]) ∧ Below w.heap.size w w' := by
  have := Tryz.utf8_DecodeRuneInString (s.extract pos s.size) w hT
  rw [decodeGo_at s pos h, hd] at this
  exact this
end Go.Proofs.YtoobjjpheegmdaaGreat
namespace Go.Proofs.YtoobjjpheegmdaaGreat
open Go.RowKit Go
theorem next_at (w : World) (k : Nat) (s : ByteArray) (pos : Nat) (ty : TypeId) (hk : w.heap[k]? = some (.stringIter s pos)) (h : pos < s.size) (c n : Nat) (hd : MW.dec (s.data.toList.drop pos) = (c, n)) :
    (Instr.next (.pointer (some ⟨k, 0, none⟩)) true ty).run Tryz.prog w = .ok (.tuple #[.bool true, .int .i64 pos, .int .i32 c]) (w.iterAt k s (pos + n)) := by
  have := Lib.run_next_any_at (P := Tryz.prog) w k s pos ty hk h
  rw [MW.dec_at, hd] at this
  exact this
end Go.Proofs.YtoobjjpheegmdaaGreat
namespace Go.Proofs.YtoobjjpheegmdaaGreat.LX
open Go MW
end Go.Proofs.YtoobjjpheegmdaaGreat.LX
namespace Go.Proofs.YtoobjjpheegmdaaGreat
open Go.RowKit Go
end Go.Proofs.YtoobjjpheegmdaaGreat
namespace Go.Proofs.YtoobjjpheegmdaaGreat
open Go.RowKit Go
set_option maxHeartbeats 2000000 in
set_option maxRecDepth 100000 in
theorem broken_any (s : ByteArray) (_hlen : s.size ≤ 1048576) (w : World) (hT : Lib.Utf8Tabs 1 2 w) :
    Calls Tryz.prog 116 #[.string s] w fun e w' => e = .returned (.int .i64 (LX.valid s.data.toList : Nat)) ∧ Below w.heap.size w w' := by
  have hsz : s.data.toList.length = s.size := (Lib.size_eq s).symm
  have HZ := Lib.hid hsz
  clear hsz
  have HT := Lib.hid hT
  clear hT
  go_enter Tryz.func116, Tryz.ntmps116
  go_wp2_with fail
  go_loopw [] (fun wr => ∃ pos : Nat, wr.heap[w.heap.size]? = some (.stringIter s pos) ∧ Below w.heap.size w wr ∧ pos ≤ s.size ∧ LX.valid s.data.toList = pos + LX.valid (s.data.toList.drop pos)) (fun wr => s.size - wr.iterPos w.heap.size)
  case atStart => exact ⟨0, World.iter_heap w s 0, (Below.refl _ _).alloc (Nat.le_refl _) _, Nat.zero_le _, by simp⟩
  case round =>
    obtain ⟨pos, hit, hb, hp, hv⟩ := hrel
    by_cases hlt : pos < s.size
    · obtain ⟨c, n, hd⟩ : ∃ c n, MW.dec (s.data.toList.drop pos) = (c, n) := ⟨_, _, rfl⟩
      have hn := MW.dec_drop (l := s.data.toList) (pos := pos) (by rw [HZ.out]; exact hlt)
      rw [hd, HZ.out] at hn
      simp only at hn
      have hne : s.data.toList.drop pos ≠ [] := by
        intro e
        have := congrArg List.length e
        rw [List.length_drop, HZ.out] at this
        simp at this
        omega
      have hbad : LX.bad (s.data.toList.drop pos) = (decide (c = 65533) && decide (n = 1)) := by unfold LX.bad; rw [hd]
      have hstep := LX.valid_step _ hne
      rw [hd, List.drop_drop] at hstep
      simp only at hstep
      have HV := Lib.hid hv
      have HBAD := Lib.hid hbad
      have HST := Lib.hid hstep
      have hit1 := Lib.iterAt_heap wr _ s pos (pos + n) hit
      have HIT := Lib.hid hit1
      have hnx := fun ty => next_at wr _ s pos ty hit hlt c n hd
      have hb1 := Lib.below_iterAt hb (k := w.heap.size) (Nat.le_refl _) s (pos + n)
      have HB := Lib.hid hb1
      have HP0 := Lib.hid (iterPos_of hit)
      have HP1 := Lib.hid (iterPos_of hit1)
      have HL := Lib.hid (show w.heap.size < (wr.iterAt w.heap.size s (pos + n)).heap.size from (Array.getElem?_eq_some_iff.1 hit1).1)
      have HC := Lib.hid (decode_call s pos hlt c n hd (wr.iterAt w.heap.size s (pos + n)) (Utf8Tabs_below HT.out hb1))
      clear hd hbad hstep hne hv hit hit1 hb hb1
      by_cases hc : c = 65533
      · subst hc
        by_cases h1 : n = 1
        · subst h1
          go_wp2_with fail
          refine HC.out.mono ?_
          rintro e w1 ⟨rfl, hb1⟩
          have HB1 := Lib.hid (HB.out.trans (hb1.mono HB.out.size))
          clear hb1
          go_wp2_with fail
          go_ret
          refine ⟨?_, HB1.out⟩
          rw [HV.out, LX.valid_bad _ (by rw [HBAD.out]; rfl)]
          rfl
        · have h1' : ((n : Int) == 1) = false := by simp; omega
          go_wp2_with fail
          refine HC.out.mono ?_
          rintro e w1 ⟨rfl, hb1⟩
          have HB1 := Lib.hid (HB.out.trans (hb1.mono HB.out.size))
          have HIT1 := Lib.hid ((hb1.block _ HL.out).trans HIT.out)
          clear hb1
          go_wp2_with fail
          go_roundw
          case rel => exact ⟨pos + n, HIT1.out, HB1.out, by omega, by rw [HV.out, HST.out (by rw [HBAD.out]; simp [h1])]; omega⟩
          case measure => rw [HP0.out, iterPos_of HIT1.out]; omega
      · have hc' : ((c : Int) == 65533) = false := by simp; omega
        go_wp2_with fail
        go_roundw
        case rel => exact ⟨pos + n, HIT.out, HB.out, by omega, by rw [HV.out, HST.out (by rw [HBAD.out]; simp [hc])]; omega⟩
        case measure => rw [HP0.out, HP1.out]; omega
    · obtain rfl : pos = s.size := by omega
      have hnx := fun ty => Lib.run_next_end_at (P := Tryz.prog) wr _ s s.size ty hit hlt
      have HV := Lib.hid hv
      have HB := Lib.hid hb
      clear hv hb hit
      go_wp2_with fail
      go_ret
      refine ⟨?_, HB.out⟩
      rw [HV.out, List.drop_of_length_le (by rw [HZ.out]; exact Nat.le_refl _)]
      rfl
theorem index_contains (l : List UInt8) (c : UInt8) : decide (0 ≤ Lib.indexByte l c) = l.contains c := by
  induction l with
  | nil => rfl
  | cons b r ih =>
    have hg := Lib.indexByte_ge r c
    rw [List.contains_cons, ← ih, Lib.indexByte]
    by_cases h : b = c
    · subst h
      simp
    · have h1 : (b == c) = false := by simpa using h
      have h2 : (c == b) = false := by simpa using fun e : c = b => h e.symm
      rw [h1, h2]
      simp only [Bool.false_eq_true, if_false, Bool.false_or]
      by_cases h3 : Lib.indexByte r c = -1
      · rw [h3]; rfl
      · have h4 : (Lib.indexByte r c == -1) = false := by simpa using h3
        rw [h4]
        simp only [Bool.false_eq_true, if_false]
        rw [decide_eq_true (by omega : 0 ≤ Lib.indexByte r c), decide_eq_true (by omega)]
end Go.Proofs.YtoobjjpheegmdaaGreat
namespace Go.Proofs.YtoobjjpheegmdaaGreat
open Go.RowKit Go
end Go.Proofs.YtoobjjpheegmdaaGreat
namespace Go.Proofs.YtoobjjpheegmdaaGreat.Own
open Go.RowKit Go
end Go.Proofs.YtoobjjpheegmdaaGreat.Own
namespace Go.Proofs.YtoobjjpheegmdaaGreat.Own
open Go.RowKit Go
end Go.Proofs.YtoobjjpheegmdaaGreat.Own
namespace Go.Proofs.YtoobjjpheegmdaaGreat
open Go.RowKit Go
set_option maxHeartbeats 2000000 in
set_option maxRecDepth 100000 in
theorem own_isText_any (s : ByteArray) (hlen : s.size ≤ 1048576) (w : World) (hT : Lib.Utf8Tabs 1 2 w) :
    Calls Tryz.prog 105 #[.string s] w fun e w' => e = .returned (.bool (LX.isText s.data.toList)) ∧ Below w.heap.size w w' := by
  have hsz : s.data.toList.length = s.size := (Lib.size_eq s).symm
  have HBR := Lib.hid (broken_any s hlen w hT)
  clear hT
  obtain ⟨v, hv⟩ : ∃ v, LX.valid s.data.toList = v := ⟨_, rfl⟩
  have hte : LX.isText s.data.toList = (!s.data.toList.contains 10 && decide (v = s.size)) := by
    unfold LX.isText
    rw [hv, hsz]
  rw [hv] at HBR
  have HTE := Lib.hid hte
  clear hte hv hsz
  have HCO := Lib.hid (fun w => Tryz.strings_Contains_one s 10 w)
  rw [index_contains] at HCO
  by_cases h : v = s.size
  · subst h
    go_enter Tryz.func105, Tryz.ntmps105
    go_wp2_with fail
    refine HBR.out.mono ?_
    rintro e w1 ⟨rfl, hb1⟩
    go_wp2_with fail
    refine (HCO.out w1).mono ?_
    rintro e w2 ⟨rfl, rfl⟩
    go_wp2_with fail
    go_ret
    refine ⟨ret_bool ?_, hb1⟩
    rw [HTE.out]
    simp
  · have h' : ((v : Int) == (s.size : Int)) = false := by simp; omega
    go_enter Tryz.func105, Tryz.ntmps105
    go_wp2_with fail
    refine HBR.out.mono ?_
    rintro e w1 ⟨rfl, hb1⟩
    go_wp2_with fail
    go_ret
    refine ⟨ret_bool ?_, hb1⟩
    rw [HTE.out, decide_eq_false h, Bool.and_false]
end Go.Proofs.YtoobjjpheegmdaaGreat
namespace Go.Proofs.YtoobjjpheegmdaaGreat.E4
open Go.RowKit Go
theorem enters_r1 : ∀ args w, (callFunc 100 args).run Tryz.prog w = .ok (.enter 100 args) w := enters_of Tryz.func100 (by kernel_rfl) rfl
theorem enters_r2 : ∀ args w, (callFunc 101 args).run Tryz.prog w = .ok (.enter 101 args) w := enters_of Tryz.func101 (by kernel_rfl) rfl
theorem enters_m1 : ∀ args w, (callFunc 104 args).run Tryz.prog w = .ok (.enter 104 args) w := enters_of Tryz.func104 (by kernel_rfl) rfl
def longW (w : ByteArray) : Bool := decide (1024 < w.size)
theorem any_long (l : List ByteArray) : l.any longW = !l.all smallW := by
  rw [List.all_eq_not_any_not, Bool.not_not]
  congr 1
  funext w
  unfold longW smallW
  by_cases h : w.size ≤ 1024
  · rw [decide_eq_true h, decide_eq_false (by omega)]; rfl
  · rw [decide_eq_false h, decide_eq_true (by omega)]; rfl
set_option maxRecDepth 100000 in
theorem long_fn (t : ByteArray) (w : World) : Calls Tryz.prog 100 (#[.string t] ++ #[]) w fun e w' => e = .returned (.bool (longW t)) ∧ Below w.heap.size w w' := by
  by_cases h : 1024 < t.size
  · have HL : Hid (longW t = true) := Lib.hid (by unfold longW; rw [decide_eq_true h])
    have d1 : (1024 : Int) < (t.size : Int) := by omega
    clear h
    go_enter Tryz.func100, Tryz.ntmps100
    go_wp2_with fail
    go_ret
    exact ⟨by rw [HL.out]; rfl, Below.refl _ _⟩
  · have HL : Hid (longW t = false) := Lib.hid (by unfold longW; rw [decide_eq_false h])
    have d1 : ¬ (1024 : Int) < (t.size : Int) := by omega
    clear h
    go_enter Tryz.func100, Tryz.ntmps100
    go_wp2_with fail
    go_ret
    exact ⟨by rw [HL.out]; rfl, Below.refl _ _⟩
set_option maxRecDepth 100000 in
theorem wrongRow_fn (C : Nat) (l : List ByteArray) (rv : Value) (w : World) (hC : Bl w C 103 #[.func (.func 100) #[] #[]]) (hl : StrsAt w rv l) :
    Calls Tryz.prog 101 (#[rv] ++ #[.pointer (some ⟨C, 0, none⟩)]) w fun e w' => e = .returned (.bool (!rowG l)) ∧ Below w.heap.size w w' := by
  obtain ⟨a, c, rfl, hz1, hz2⟩ := id hl
  clear hz1 hz2
  have HC := Lib.hid (contains_strs 100 #[] enters_r1 longW l a c w hl fun W x _ => long_fn x W)
  have c0 := hC.cell 0
  simp only [List.getElem?_toArray, List.getElem?_cons_zero] at c0
  clear hC hl
  by_cases h : 64 < l.length
  · have HL : Hid (rowG l = false) := Lib.hid (by unfold rowG; rw [decide_eq_false (by omega)]; rfl)
    have d1 : (64 : Int) < (l.length : Int) := by omega
    clear h
    go_enter Tryz.func101, Tryz.ntmps101
    go_wp2_with fail
    go_ret
    exact ⟨by rw [HL.out]; rfl, Below.refl _ _⟩
  · have HL : Hid ((!rowG l) = l.any longW) := Lib.hid (by unfold rowG; rw [decide_eq_true (by omega), Bool.true_and, any_long])
    have d1 : ¬ (64 : Int) < (l.length : Int) := by omega
    clear h
    generalize l.any longW = r at HC HL
    go_enter Tryz.func101, Tryz.ntmps101
    go_wp2_with (go_at_call 102; refine HC.out.mono ?_; rintro e w' ⟨rfl, hb'⟩)
    go_ret
    exact ⟨by rw [HL.out]; rfl, hb'⟩
def goodR (ls : List (List ByteArray)) : Bool := ls.all rowG && decide (ls.length ≤ 64)
def goodM (isT : ByteArray → Bool) (ms : List Mt) : Bool := ms.all (matG isT) && decide (ms.length ≤ 4)
set_option maxRecDepth 100000 in
theorem goodRows_any (ls : List (List ByteArray)) (av : Value) (w : World) (h : TextsAt w av ls) :
    Calls Tryz.prog 85 #[av] w fun e w' => e = .returned (.bool (goodR ls)) ∧ Below w.heap.size w w' := by
  have hmf : ∀ (fn : Fn) (first cap : Array Value) (w : World), (Instr.makeFunc fn first cap).run Tryz.prog w = .ok (.func fn first cap) w := fun _ _ _ _ => rfl
  obtain ⟨a, c, rfl, hz1, hz2⟩ := id h
  clear hz1 hz2
  obtain ⟨w1, hw1⟩ : ∃ w1, w1 = w.alloc (.cells #[.func (.func 100) #[] #[]] 103) := ⟨_, rfl⟩
  have hb1 : Below w.heap.size w w1 := by rw [hw1]; exact (Below.refl _ w).alloc (Nat.le_refl _) _
  have hk1 : Bl w1 w.heap.size 103 #[.func (.func 100) #[] #[]] := by rw [hw1]; exact Bl.new w 103 _
  have HC := Lib.hid (contains_rows 101 #[.pointer (some ⟨w.heap.size, 0, none⟩)] enters_r2 (fun l => !rowG l) ls a c w1 (h.below hb1) fun W x rv hW hx => wrongRow_fn _ x rv W (hk1.below hW) hx)
  have HB := Lib.hid hb1
  have HW := Lib.hid hw1.symm
  clear h hw1 hb1 hk1
  by_cases h : ls.length ≤ 64
  · have HL : Hid (goodR ls = !ls.any (fun l => !rowG l)) := Lib.hid (by unfold goodR; rw [decide_eq_true h, Bool.and_true]; simp [List.all_eq_not_any_not])
    have d1 : ((ls.length : Int) ≤ 64) := by omega
    clear h
    generalize ls.any (fun l => !rowG l) = r at HC HL
    go_enter Tryz.func85, Tryz.ntmps85
    go_upto_region 2 with fail
    rw [HW.out]
    go_wp2_with (go_at_call 103; refine HC.out.mono ?_; rintro e w' ⟨rfl, hb'⟩)
    go_ret
    exact ⟨by rw [HL.out]; rfl, below_mid12 HB.out hb'⟩
  · have HL : Hid (goodR ls = false) := Lib.hid (by unfold goodR; rw [decide_eq_false h, Bool.and_false])
    have d1 : ¬ ((ls.length : Int) ≤ 64) := by omega
    clear h
    go_enter Tryz.func85, Tryz.ntmps85
    go_upto_region 2 with fail
    rw [HW.out]
    go_wp2_with fail
    go_ret
    exact ⟨by rw [HL.out]; rfl, HB.out⟩
def isTx (s : ByteArray) : Bool := LX.isText s.data.toList
set_option maxHeartbeats 2000000 in
set_option maxRecDepth 100000 in
theorem wrongMat_fn (m : Mt) (w : World) (hT : Lib.Utf8Tabs 1 2 w) :
    Calls Tryz.prog 104 (#[m.val] ++ #[]) w fun e w' => e = .returned (.bool (!matG isTx m)) ∧ Below w.heap.size w w' := by
  obtain ⟨w1, hw1⟩ : ∃ w1, w1 = w.alloc (.cells #[.string m.name, .bool m.not, .string m.value] 89) := ⟨_, rfl⟩
  have hb1 : Below w.heap.size w w1 := by rw [hw1]; exact (Below.refl _ w).alloc (Nat.le_refl _) _
  have hk1 : Bl w1 w.heap.size 89 #[.string m.name, .bool m.not, .string m.value] := by rw [hw1]; exact Bl.new w 89 _
  have HNM := Lib.hid (name_any m.name w1)
  have HT := Lib.hid hT
  have HB1 := Lib.hid hb1
  have HK1 := Lib.hid hk1
  have HW := Lib.hid hw1.symm
  have c0 := hk1.cell 0
  simp only [List.getElem?_toArray, List.getElem?_cons_zero] at c0
  clear hT hw1 hb1 hk1
  simp only [Mt.val]
  go_enter Tryz.func104, Tryz.ntmps104
  go_upto_region 1 with fail
  rw [HW.out]
  cases hn : MW.name m.name.data.toList with
  | false =>
    rw [hn] at HNM
    have HL : Hid (matG isTx m = false) := Lib.hid (by unfold matG; rw [hn]; rfl)
    clear hn
    go_wp2_with (go_at_call 38; refine HNM.out.mono ?_; rintro e w2 ⟨rfl, hl2⟩)
    go_ret
    exact ⟨by rw [HL.out]; rfl, below_mid12 HB1.out (E4.lay_below hl2)⟩
  | true =>
    rw [hn] at HNM
    by_cases h : 1024 < m.value.size
    · have HL : Hid (matG isTx m = false) := Lib.hid (by unfold matG; rw [hn, decide_eq_false (by omega)]; rfl)
      have d1 : (1024 : Int) < (m.value.size : Int) := by omega
      clear hn h
      go_wp2_with (go_at_call 38; refine HNM.out.mono ?_; rintro e w2 ⟨rfl, hl2⟩; have c2 := (HK1.out.below (E4.lay_below hl2)).cell 2; simp only [List.getElem?_toArray, List.getElem?_cons_succ, List.getElem?_cons_zero] at c2)
      go_ret
      exact ⟨by rw [HL.out]; rfl, below_mid12 HB1.out (E4.lay_below hl2)⟩
    · have HL : Hid (matG isTx m = isTx m.value) := Lib.hid (by unfold matG; rw [hn, decide_eq_true (by omega)]; rfl)
      have d1 : ¬ (1024 : Int) < (m.value.size : Int) := by omega
      have HI := Lib.hid (fun W hW => own_isText_any m.value (by omega) W hW)
      clear hn h
      go_wp2_with (first | (go_at_call 38; refine HNM.out.mono ?_; rintro e w2 ⟨rfl, hl2⟩; have HB2 := Lib.hid (below_mid12 HB1.out (E4.lay_below hl2)); have c2 := (HK1.out.below (E4.lay_below hl2)).cell 2; simp only [List.getElem?_toArray, List.getElem?_cons_succ, List.getElem?_cons_zero] at c2; have HIT := Lib.hid (HI.out w2 (Utf8Tabs_below HT.out HB2.out)); clear hl2) | (go_at_call 105; refine HIT.out.mono ?_; rintro e w3 ⟨rfl, hb3⟩))
      go_ret
      refine ⟨?_, below_mid12 HB2.out hb3⟩
      rw [HL.out]
      show Ending.returned (.bool (decide ((1024 : Int) < (m.value.size : Int)) || !LX.isText m.value.data.toList)) = _
      rw [decide_eq_false (by omega)]
      rfl
set_option maxRecDepth 100000 in
theorem goodMatchers_any (ms : List Mt) (mv : Value) (w : World) (h : MsAt w mv ms) (hT : ms ≠ [] → Lib.Utf8Tabs 1 2 w) :
    Calls Tryz.prog 86 #[mv] w fun e w' => e = .returned (.bool (goodM isTx ms)) ∧ Below w.heap.size w w' := by
  obtain ⟨a, c, rfl, hz1, hz2⟩ := id h
  clear hz1 hz2
  have HC := Lib.hid (contains_mats 104 #[] enters_m1 (fun m => !matG isTx m) ms a c w h fun W x hne hW => wrongMat_fn x W (Utf8Tabs_below (hT hne) hW))
  clear h hT
  by_cases h : ms.length ≤ 4
  · have HL : Hid (goodM isTx ms = !ms.any (fun l => !matG isTx l)) := Lib.hid (by unfold goodM; rw [decide_eq_true h, Bool.and_true]; simp [List.all_eq_not_any_not])
    have d1 : ((ms.length : Int) ≤ 4) := by omega
    clear h
    generalize ms.any (fun l => !matG isTx l) = r at HC HL
    go_enter Tryz.func86, Tryz.ntmps86
    go_wp2_with (go_at_call 106; refine HC.out.mono ?_; rintro e w' ⟨rfl, hb'⟩)
    go_ret
    exact ⟨by rw [HL.out]; rfl, hb'⟩
  · have HL : Hid (goodM isTx ms = false) := Lib.hid (by unfold goodM; rw [decide_eq_false h, Bool.and_false])
    have d1 : ¬ ((ms.length : Int) ≤ 4) := by omega
    clear h
    go_enter Tryz.func86, Tryz.ntmps86
    go_wp2_with fail
    go_ret
    exact ⟨by rw [HL.out]; rfl, Below.refl _ _⟩
theorem timeOK_iff (n : Int) : timeOK n = decide (-1099511627776 ≤ n ∧ n ≤ 1099511627776) := by unfold timeOK; rw [Bool.decide_and]
set_option maxHeartbeats 4000000 in
set_option maxRecDepth 100000 in
theorem ownGood_any (a : Ask) (av mv : Value) (w : World) (h1 : TextsAt w av a.all) (h2 : MsAt w mv a.mat) (hT : a.kd = 2 → a.mat ≠ [] → Lib.Utf8Tabs 1 2 w) :
    Calls Tryz.prog 75 #[a.dyn av mv] w fun x w' => x = .returned (.bool (a.good isTx)) ∧ Below w.heap.size w w' := by
  have q1 := is63_yes
  have q2 := is63_nil
  have q3 := is63_no76
  have q4 := is63_no78
  have r1 := is76_yes
  have r2 := is76_nil
  have r3 := is76_no78
  have s1 := is78_yes
  have s2 := is78_nil
  obtain ⟨aa, ca, rfl, hz1, hz2⟩ := id h1
  obtain ⟨am, cm, rfl, hz3, hz4⟩ := id h2
  clear hz1 hz2 hz3 hz4
  have HT := Lib.hid (times_any a aa am a.all.length ca a.mat.length cm w)
  have HU := Lib.hid hT
  have H1 := Lib.hid h1
  have H2 := Lib.hid h2
  clear h1 h2 hT
  by_cases hk : 1 ≤ a.kd ∧ a.kd ≤ 3
  · have ht : a.times = .tuple #[.int .i64 a.src, .int .i64 a.til, .bool true] := by unfold Ask.times Ask.timed; rw [decide_eq_true hk]; rfl
    rw [ht] at HT
    clear ht
    have HKD := Lib.hid hk
    obtain ⟨dv, hdv⟩ : ∃ v, v = a.dyn (.slice aa a.all.length ca) (.slice am a.mat.length cm) := ⟨_, rfl⟩
    rw [← hdv] at HT ⊢
    have HDV := Lib.hid hdv
    clear hdv
    cases e1 : timeOK a.src with
    | false =>
      have hx := timeOK_iff a.src
      rw [e1] at hx
      have hx' := of_decide_eq_false hx.symm
      have HNO : Hid (a.good isTx = false) := Lib.hid (good_no (by omega))
      have HTA := Lib.hid (time_any a.src)
      rw [e1] at HTA
      clear hx hx' hk e1
      go_enter Tryz.func75, Tryz.ntmps75
      go_wp2_with (first | (go_at_call 84; refine HT.out.mono ?_; rintro x w2 ⟨rfl, hb2⟩) | (go_at_call 33; refine (HTA.out _).mono ?_; rintro x w3 ⟨rfl, rfl⟩))
      go_ret
      exact ⟨by rw [HNO.out]; rfl, hb2⟩
    | true =>
    cases e2 : timeOK a.til with
    | false =>
      have hx := timeOK_iff a.til
      rw [e2] at hx
      have hx' := of_decide_eq_false hx.symm
      have HNO : Hid (a.good isTx = false) := Lib.hid (good_no (by omega))
      have HTA := Lib.hid (time_any a.src)
      rw [e1] at HTA
      have HTB := Lib.hid (time_any a.til)
      rw [e2] at HTB
      clear hx hx' hk e1 e2
      go_enter Tryz.func75, Tryz.ntmps75
      go_wp2_with (first | (go_at_call 84; refine HT.out.mono ?_; rintro x w2 ⟨rfl, hb2⟩) | (go_at_call 33; (first | (with_reducible refine (HTA.out _).mono ?_) | (with_reducible refine (HTB.out _).mono ?_)); rintro x w3 ⟨rfl, hx3⟩; have hx4 := Eq.symm hx3; clear hx3; subst hx4))
      go_ret
      exact ⟨by rw [HNO.out]; rfl, hb2⟩
    | true =>
    have hx1 := of_decide_eq_true ((timeOK_iff a.src).symm.trans e1)
    have hx2 := of_decide_eq_true ((timeOK_iff a.til).symm.trans e2)
    have HIN : Hid a.inn := Lib.hid ⟨hk, hx1, hx2⟩
    have HTA := Lib.hid (time_any a.src)
    rw [e1] at HTA
    have HTB := Lib.hid (time_any a.til)
    rw [e2] at HTB
    clear hx1 hx2 hk e1 e2
    go_enter Tryz.func75, Tryz.ntmps75
    go_upto_region 5 with (first | (go_at_call 84; refine HT.out.mono ?_; rintro x w2 ⟨rfl, hb2⟩; have HB2 := Lib.hid hb2; clear hb2) | (go_at_call 33; (first | (with_reducible refine (HTA.out _).mono ?_) | (with_reducible refine (HTB.out _).mono ?_)); rintro x w3 ⟨rfl, hx3⟩; have hx4 := Eq.symm hx3; clear hx3; subst hx4))
    have hdv := HDV.out
    by_cases k1 : a.kd = 1
    · rw [dyn1 k1] at hdv
      subst hdv
      have HG : Hid (a.good isTx = goodR a.all) := Lib.hid (good_1 HIN.out k1)
      have hb3 := (Below.refl _ w2).alloc (Nat.le_refl _) (.cells #[.int .i64 a.src, .int .i64 a.til, .slice aa a.all.length ca] 63)
      have hn3 := Bl.new w2 63 #[.int .i64 a.src, .int .i64 a.til, .slice aa a.all.length ca]
      obtain ⟨w3, hw3⟩ : ∃ w3, w3 = w2.alloc (.cells #[.int .i64 a.src, .int .i64 a.til, .slice aa a.all.length ca] 63) := ⟨_, rfl⟩
      rw [← hw3] at hb3 hn3
      have HC := Lib.hid (goodRows_any a.all _ w3 ((H1.out.below HB2.out).below hb3))
      have HW3 := Lib.hid hw3.symm
      have HB3 := Lib.hid (below_mid12 HB2.out hb3)
      have d2 := hn3.cell 2
      simp only [List.getElem?_toArray, List.getElem?_cons_succ, List.getElem?_cons_zero] at d2
      clear hw3 hb3 hn3 H1 H2
      go_upto_region 7 with fail
      rw [HW3.out]
      go_wp2_with (go_at_call 85; refine HC.out.mono ?_; rintro x w4 ⟨rfl, hb4⟩)
      go_ret
      exact ⟨by rw [HG.out]; rfl, below_mid12 HB3.out hb4⟩
    by_cases k2 : a.kd = 2
    · rw [dyn2 k2] at hdv
      subst hdv
      have HG : Hid (a.good isTx = goodM isTx a.mat) := Lib.hid (good_2 HIN.out k2)
      have hb3 := (Below.refl _ w2).alloc (Nat.le_refl _) (.cells #[.int .i64 a.src, .int .i64 a.til, .slice am a.mat.length cm] 76)
      have hn3 := Bl.new w2 76 #[.int .i64 a.src, .int .i64 a.til, .slice am a.mat.length cm]
      obtain ⟨w3, hw3⟩ : ∃ w3, w3 = w2.alloc (.cells #[.int .i64 a.src, .int .i64 a.til, .slice am a.mat.length cm] 76) := ⟨_, rfl⟩
      rw [← hw3] at hb3 hn3
      have HC := Lib.hid (goodMatchers_any a.mat _ w3 (MsAt.below12 (MsAt.below12 H2.out HB2.out) hb3) (fun hne => Utf8Tabs_below (HU.out k2 hne) (below_mid12 HB2.out hb3)))
      have HW3 := Lib.hid hw3.symm
      have HB3 := Lib.hid (below_mid12 HB2.out hb3)
      have d2 := hn3.cell 2
      simp only [List.getElem?_toArray, List.getElem?_cons_succ, List.getElem?_cons_zero] at d2
      clear hw3 hb3 hn3 H1 H2
      go_upto_region 10 with fail
      rw [HW3.out]
      go_wp2_with (go_at_call 86; refine HC.out.mono ?_; rintro x w4 ⟨rfl, hb4⟩)
      go_ret
      exact ⟨by rw [HG.out]; rfl, below_mid12 HB3.out hb4⟩
    · have h12 := HKD.out
      have k3 : a.kd = 3 := by omega
      rw [dyn3 k3] at hdv
      subst hdv
      have HG : Hid (a.good isTx = true) := Lib.hid (good_3 HIN.out k1 k2)
      clear k1 k2 k3 h12 H1 H2
      go_wp2_with fail
      go_ret
      exact ⟨by rw [HG.out]; rfl, HB2.out⟩
  · have ht : a.times = .tuple #[.int .i64 0, .int .i64 0, .bool false] := by unfold Ask.times Ask.timed; rw [decide_eq_false hk]; rfl
    rw [ht] at HT
    have HNO : Hid (a.good isTx = false) := Lib.hid (good_no (by omega))
    rw [dyn0 hk] at HT ⊢
    clear ht hk
    go_enter Tryz.func75, Tryz.ntmps75
    go_wp2_with (go_at_call 84; refine HT.out.mono ?_; rintro x w2 ⟨rfl, hb2⟩)
    go_ret
    exact ⟨by rw [HNO.out]; rfl, hb2⟩
end Go.Proofs.YtoobjjpheegmdaaGreat.E4
