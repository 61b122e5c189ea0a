/-
  THE DOCUMENT'S OWN TextFilter: of one that nothing stands within.
  THE DOCUMENT'S OWN TextFilter: of a field.
  A FILTER's TEXT, of its kids' texts: no program in it.
  THE DOCUMENT'S OWN TextFilter, whole.
  THE DOCUMENT'S OWN TextFilter, of whichever filter.
-/
import Derived.Test.YtkckgjanfiiieaaGreatDoorPxB
import Derived.Test.YtkckgjanfiiieaaGreatDoorLxR
import Derived.Deep.QuietTactic
import Derived.BigQuiet
import Derived.BigRegion
import Derived.Test.YtkckgjanfiiieaaGreatDoorPrE
import Derived.Deep.DeepCutAuto
namespace Go.Proofs.YtkckgjanfiiieaaGreatDoor
open Go.RowKit Go

/-- A filter's text. -/
def fText (f : Ft) : List UInt8 := PX.spell (PX.fsp 0 f)

theorem cat_bytes (a b : List UInt8) : (⟨a.toArray⟩ : ByteArray) ++ ⟨b.toArray⟩ = ⟨(a ++ b).toArray⟩ := by
  apply ByteArray.ext
  simp [ByteArray.data_append]

set_option maxHeartbeats 4000000 in
set_option maxRecDepth 100000 in
theorem textFilter_leaf (op : Int) (n t : ByteArray) (aa : Option Addr) (cc : Nat) (hop : 1 ≤ op ∧ op ≤ 4) (hlen : t.size ≤ 100000) (w : World) (hT : Lib.Utf8Tabs 4 5 w) :
    Calls Tryz.prog 52 #[.agg #[.int .i64 op, .string n, .string t, .slice aa 0 cc]] w fun e w' => e = .returned (.string ⟨(fText (.mk op n t [])).toArray⟩) ∧ Below w.heap.size w w' := by
  have hql : (LX.quote t.data.toList).length ≤ 1000000 := by
    unfold LX.quote
    split
    · have := (LX.esc_len t.data.toList).2
      have h2 : t.data.toList.length = t.size := (Lib.size_eq t).symm
      simp only [List.length_cons, List.length_append, List.length_nil]
      omega
    · simp
  have hq := fun W (h : Lib.Utf8Tabs 4 5 W) => quote_any t (by omega) W h
  rcases (by omega : op = 1 ∨ op = 2 ∨ op = 3 ∨ op = 4) with rfl | rfl | rfl | rfl
  · have e : fText (.mk 1 n t []) = [116, 114, 117, 101] := by unfold fText; rw [PX.fsp]; rfl
    rw [e]
    go_enter Tryz.func52, Tryz.ntmps52
    go_wp2_with fail
    go_ret
    exact ⟨rfl, (Below.refl _ w).alloc (Nat.le_refl _) _⟩
  · have e : fText (.mk 2 n t []) = [102, 97, 108, 115, 101] := by unfold fText; rw [PX.fsp]; rfl
    rw [e]
    go_enter Tryz.func52, Tryz.ntmps52
    go_wp2_with fail
    go_ret
    exact ⟨rfl, (Below.refl _ w).alloc (Nat.le_refl _) _⟩
  · have e : fText (.mk 3 n t []) = [119, 111, 114, 100, 32] ++ LX.quote t.data.toList := by
      unfold fText; rw [PX.fsp]
      show PX.spell [(0, PX.kW PX.wWord), (1, PX.kT t.data.toList)] = _
      rw [PX.spell, PX.spell, PX.spell]
      unfold PX.lts
      simp [PX.kW, PX.kT, PX.wWord]
    rw [e]
    go_enter Tryz.func52, Tryz.ntmps52
    go_wp2_with fail
    go_at_call 51
    refine (hq _ (Utf8Tabs_below hT ((Below.refl _ w).alloc (Nat.le_refl _) _))).mono ?_
    rintro e w2 ⟨rfl, hb⟩
    have hb2 : Below w.heap.size w w2 := ((Below.refl _ w).alloc (Nat.le_refl _) _).trans (hb.mono (by simp))
    have HB := Lib.hid hb2
    clear hb hb2
    go_wp2_with fail
    go_ret
    exact ⟨by rw [cat_bytes]; rfl, HB.out⟩
  · have e : fText (.mk 4 n t []) = [104, 97, 115, 32] ++ LX.quote t.data.toList := by
      unfold fText; rw [PX.fsp]
      show PX.spell [(0, PX.kW PX.wHas), (1, PX.kT t.data.toList)] = _
      rw [PX.spell, PX.spell, PX.spell]
      unfold PX.lts
      simp [PX.kW, PX.kT, PX.wHas]
    rw [e]
    go_enter Tryz.func52, Tryz.ntmps52
    go_wp2_with fail
    go_at_call 51
    refine (hq _ (Utf8Tabs_below hT ((Below.refl _ w).alloc (Nat.le_refl _) _))).mono ?_
    rintro e w2 ⟨rfl, hb⟩
    have hb2 : Below w.heap.size w w2 := ((Below.refl _ w).alloc (Nat.le_refl _) _).trans (hb.mono (by simp))
    have HB := Lib.hid hb2
    clear hb hb2
    go_wp2_with fail
    go_ret
    exact ⟨by rw [cat_bytes]; rfl, HB.out⟩
end Go.Proofs.YtkckgjanfiiieaaGreatDoor

namespace Go.Proofs.YtkckgjanfiiieaaGreatDoor
open Go.RowKit Go

set_option maxHeartbeats 4000000 in
set_option maxRecDepth 100000 in
theorem textFilter_field (n t : ByteArray) (aa : Option Addr) (cc : Nat) (hn : n.size ≤ 100000) (hlen : t.size ≤ 100000) (w : World) (hT : Lib.Utf8Tabs 4 5 w) :
    Calls Tryz.prog 52 #[.agg #[.int .i64 5, .string n, .string t, .slice aa 0 cc]] w fun e w' => e = .returned (.string ⟨(fText (.mk 5 n t [])).toArray⟩) ∧ Below w.heap.size w w' := by
  have hql : (LX.quote t.data.toList).length ≤ 1000000 := by
    unfold LX.quote
    split
    · have := (LX.esc_len t.data.toList).2
      have h2 : t.data.toList.length = t.size := (Lib.size_eq t).symm
      simp only [List.length_cons, List.length_append, List.length_nil]
      omega
    · simp
  have hnl : n.data.size ≤ 100000 := hn
  have hq := fun W (h : Lib.Utf8Tabs 4 5 W) => quote_any t (by omega) W h
  have e : fText (.mk 5 n t []) = [102, 105, 101, 108, 100, 32] ++ n.data.toList ++ [61] ++ LX.quote t.data.toList := by
    unfold fText; rw [PX.fsp]
    show PX.spell [(0, PX.kW PX.wField), (1, PX.kN n.data.toList), (0, PX.kS PX.wEq), (0, PX.kT t.data.toList)] = _
    rw [PX.spell, PX.spell, PX.spell, PX.spell, PX.spell]
    unfold PX.lts
    simp [PX.kW, PX.kT, PX.kN, PX.kS, PX.wField, PX.wEq]
  rw [e]
  have hcat : (⟨#[102, 105, 101, 108, 100, 32]⟩ : ByteArray) ++ n ++ ⟨#[61]⟩ ++ ⟨(LX.quote t.data.toList).toArray⟩ = ⟨([102, 105, 101, 108, 100, 32] ++ n.data.toList ++ [61] ++ LX.quote t.data.toList).toArray⟩ := by
    apply ByteArray.ext
    simp [ByteArray.data_append]
  rw [← hcat]
  obtain ⟨W, hW⟩ : ∃ W, W = w.alloc (.cells #[.int .i64 5, .string n, .string t, .slice aa 0 cc] 26) := ⟨_, rfl⟩
  have hbW : Below w.heap.size w W := by rw [hW]; exact (Below.refl _ w).alloc (Nat.le_refl _) _
  have hTW : Lib.Utf8Tabs 4 5 W.drew := Utf8Tabs_below hT hbW.drew
  have c0 : W.cell? ⟨w.heap.size, 0, none⟩ = some (.int .i64 5) := by rw [hW]; go_simp
  have c1 : W.cell? ⟨w.heap.size, 1, none⟩ = some (.string n) := by rw [hW]; go_simp
  have c2 : W.cell? ⟨w.heap.size, 2, none⟩ = some (.string t) := by rw [hW]; go_simp
  have hsW : w.heap.size < W.heap.size := by rw [hW]; simp
  have HW := Lib.hid hW
  have HQ := Lib.hid (hq _ hTW)
  have HB := Lib.hid hbW
  clear hW hq hTW hbW hcat e
  go_enter Tryz.func52, Tryz.ntmps52
  go_wp2_with fail
  rw [← HW.out]
  go_region_with (go_at_call 51; refine HQ.out.mono ?_; rintro e w2 ⟨rfl, hb⟩; have d0 : w2.cell? ⟨w.heap.size, 0, none⟩ = some (.int .i64 5) := (hb.cell (by exact hsW)).trans c0; have d1 : w2.cell? ⟨w.heap.size, 1, none⟩ = some (.string n) := (hb.cell (by exact hsW)).trans c1; have d2 : w2.cell? ⟨w.heap.size, 2, none⟩ = some (.string t) := (hb.cell (by exact hsW)).trans c2)
  all_goals
    have hb2 : Below w.heap.size w w2 := HB.out.drew.trans (hb.mono (by show w.heap.size ≤ W.heap.size; omega))
    have HB2 := Lib.hid hb2
    clear hb hb2
    go_wp2_with fail
    go_ret
    exact ⟨rfl, HB2.out⟩
end Go.Proofs.YtkckgjanfiiieaaGreatDoor

namespace Go.Proofs.YtkckgjanfiiieaaGreatDoor
open Go.RowKit Go

/-- A kid's text. -/
def kText (k : Ft) : List UInt8 := if 7 ≤ k.op then 40 :: (fText k ++ [41]) else fText k

theorem spell_blank (b : Nat) (x : PX.K) (r : List (Nat × PX.K)) : PX.spell ((b, x) :: r) = List.replicate b 32 ++ PX.spell ((0, x) :: r) := by
  rw [PX.spell, PX.spell]
  rfl

theorem fsp_blank : ∀ (n : Nat) (f : Ft), f.count ≤ n → PX.Can f → ∀ b, ∃ x r, PX.fsp b f = (b, x) :: r ∧ PX.fsp 0 f = (0, x) :: r
  | 0, .mk _ _ _ _, hn, _, _ => by rw [Ft.count] at hn; omega
  | n + 1, .mk op nm t kids, hn, hc, b => by
    rw [Ft.count] at hn
    rw [PX.Can] at hc
    rw [PX.fsp, PX.fsp]
    have row : ∀ w, 2 ≤ kids.length → PX.Cans kids → ∃ x r, PX.rsp b w kids = (b, x) :: r ∧ PX.rsp 0 w kids = (0, x) :: r := fun w hl hcs => by
      cases kids with
      | nil => simp at hl
      | cons k r =>
        rw [PX.rsp_cons, PX.rsp_cons]
        unfold PX.ksp
        split
        · exact ⟨_, _, rfl, rfl⟩
        · rw [Ft.counts] at hn
          obtain ⟨x, y, e, e2⟩ := fsp_blank n k (by omega) (PX.Cans.mem hcs (by simp)) b
          rw [e, e2]
          exact ⟨_, _, rfl, rfl⟩
    rcases hc with ⟨rfl | rfl, _⟩ | ⟨rfl | rfl, _⟩ | ⟨rfl, _⟩ | ⟨rfl, _⟩ | ⟨rfl | rfl, _, _, hl, hcs⟩
    · exact ⟨_, _, rfl, rfl⟩
    · exact ⟨_, _, rfl, rfl⟩
    · exact ⟨_, _, rfl, rfl⟩
    · exact ⟨_, _, rfl, rfl⟩
    · exact ⟨_, _, rfl, rfl⟩
    · exact ⟨_, _, rfl, rfl⟩
    · exact row PX.wAnd hl hcs
    · exact row PX.wOr hl hcs

theorem fsp_spell {f : Ft} (hc : PX.Can f) (b : Nat) : PX.spell (PX.fsp b f) = List.replicate b 32 ++ fText f := by
  obtain ⟨x, r, e, e2⟩ := fsp_blank f.count f (Nat.le_refl _) hc b
  unfold fText
  rw [e, e2]
  exact spell_blank b x r

theorem ksp_spell {k : Ft} (hc : PX.Can k) (b : Nat) : PX.spell (PX.ksp b k) = List.replicate b 32 ++ kText k := by
  unfold PX.ksp kText
  split
  · rw [PX.spell, PX.spell_append]
    rfl
  · exact fsp_spell hc b

/-- The rest of a row. -/
def sText (w : List UInt8) : List Ft → List UInt8
  | [] => []
  | k :: r => 32 :: (w ++ (32 :: kText k)) ++ sText w r
/-- A row. -/
def rText (w : List UInt8) : List Ft → List UInt8
  | [] => []
  | k :: r => kText k ++ sText w r

theorem ssp_spell (w : List UInt8) : ∀ l : List Ft, PX.Cans l → PX.spell (PX.ssp w l) = sText w l
  | [], _ => by rw [PX.ssp]; rfl
  | k :: r, h => by
    rw [PX.Cans] at h
    rw [PX.ssp_cons, PX.spell, PX.spell_append, ksp_spell h.1, ssp_spell w r h.2, sText]
    have e : PX.lts (PX.kW w) = w := by unfold PX.lts; rw [if_neg (by show ¬ 2 = 4; decide)]; rfl
    rw [e]
    simp
theorem rsp_spell (w : List UInt8) : ∀ l : List Ft, PX.Cans l → ∀ b, l ≠ [] → PX.spell (PX.rsp b w l) = List.replicate b 32 ++ rText w l
  | [], _, _, h => absurd rfl h
  | k :: r, h, b, _ => by
    rw [PX.Cans] at h
    rw [PX.rsp_cons, PX.spell_append, ksp_spell h.1, ssp_spell w r h.2, rText, List.append_assoc]

theorem sText_snoc (w : List UInt8) (k : Ft) : ∀ l : List Ft, sText w (l ++ [k]) = sText w l ++ (32 :: (w ++ (32 :: kText k)))
  | [] => by simp [sText]
  | x :: r => by rw [List.cons_append, sText, sText, sText_snoc w k r, List.append_assoc]
theorem rText_snoc (w : List UInt8) (k : Ft) {l : List Ft} (h : l ≠ []) : rText w (l ++ [k]) = rText w l ++ (32 :: (w ++ (32 :: kText k))) := by
  cases l with
  | nil => exact absurd rfl h
  | cons x r => rw [List.cons_append, rText, rText, sText_snoc, List.append_assoc]

theorem fText_not {n t : ByteArray} {k : Ft} (hc : PX.Can k) : fText (.mk 6 n t [k]) = [110, 111, 116, 32] ++ kText k := by
  unfold fText
  rw [PX.fsp]
  show PX.spell ((0, PX.kW PX.wNot) :: PX.rsp 1 PX.wAnd [k]) = _
  rw [PX.spell, PX.rsp_cons, PX.spell_append, ksp_spell hc, PX.ssp]
  simp [PX.spell, PX.lts, PX.kW, PX.wNot]
theorem fText_and {n t : ByteArray} {l : List Ft} (hc : PX.Cans l) (h : l ≠ []) : fText (.mk 7 n t l) = rText PX.wAnd l := by
  unfold fText
  rw [PX.fsp]
  exact rsp_spell _ l hc 0 h
theorem fText_or {n t : ByteArray} {l : List Ft} (hc : PX.Cans l) (h : l ≠ []) : fText (.mk 8 n t l) = rText PX.wOr l := by
  unfold fText
  rw [PX.fsp]
  exact rsp_spell _ l hc 0 h

theorem quote_len (l : List UInt8) : (LX.quote l).length ≤ 10 * l.length + 10 := by
  unfold LX.quote
  split
  · have := (LX.esc_len l).2
    simp only [List.length_cons, List.length_append, List.length_nil]
    omega
  · simp

mutual
/-- Its names and texts are of so many bytes at most. -/
def Sm (m : Nat) : Ft → Prop
  | .mk _ n t kids => n.size ≤ m ∧ t.size ≤ m ∧ Sms m kids
def Sms (m : Nat) : List Ft → Prop
  | [] => True
  | k :: r => Sm m k ∧ Sms m r
end
theorem Sms.mem {m : Nat} : ∀ {l : List Ft} {k : Ft}, Sms m l → k ∈ l → Sm m k
  | q :: r, k, h, hk => by
    rw [Sms] at h
    rcases List.mem_cons.1 hk with rfl | hk
    · exact h.1
    · exact Sms.mem h.2 hk

theorem sText_take (w : List UInt8) : ∀ (l : List Ft) (i : Nat), (sText w (l.take i)).length ≤ (sText w l).length
  | [], i => by simp
  | k :: r, 0 => by simp [sText]
  | k :: r, i + 1 => by
    have := sText_take w r i
    rw [List.take_succ_cons, sText, sText]
    simp only [List.length_append]
    omega
theorem rText_take (w : List UInt8) (l : List Ft) (i : Nat) : (rText w (l.take i)).length ≤ (rText w l).length := by
  cases l with
  | nil => simp
  | cons k r =>
    cases i with
    | zero => simp [rText]
    | succ i =>
      have := sText_take w r i
      rw [List.take_succ_cons, rText, rText]
      simp only [List.length_append]
      omega
theorem sText_mem (w : List UInt8) {k : Ft} : ∀ {l : List Ft}, k ∈ l → (kText k).length ≤ (sText w l).length
  | x :: r, h => by
    rw [sText]
    simp only [List.length_append, List.length_cons]
    rcases List.mem_cons.1 h with rfl | h
    · omega
    · have := sText_mem w h
      omega
theorem rText_mem (w : List UInt8) {k : Ft} {l : List Ft} (h : k ∈ l) : (kText k).length ≤ (rText w l).length := by
  cases l with
  | nil => simp at h
  | cons x r =>
    rw [rText, List.length_append]
    rcases List.mem_cons.1 h with rfl | h
    · omega
    · have := sText_mem w h
      omega
theorem kText_le (k : Ft) : (fText k).length ≤ (kText k).length := by
  unfold kText
  split
  · simp; omega
  · omega
theorem rText_next (w : List UInt8) {l : List Ft} {i : Nat} (h : i < l.length) : rText w (l.take (i + 1)) = rText w (l.take i) ++ (if i = 0 then [] else 32 :: (w ++ [32])) ++ kText l[i] := by
  rw [List.take_succ_eq_append_getElem h]
  by_cases hi : i = 0
  · subst hi
    simp [rText, sText]
  · rw [if_neg hi, rText_snoc w _ (by
      intro e
      have := congrArg List.length e
      rw [List.length_take, List.length_nil] at this
      omega)]
    simp
end Go.Proofs.YtkckgjanfiiieaaGreatDoor

namespace Go.Proofs.YtkckgjanfiiieaaGreatDoor
open Go.RowKit Go

/-- What TextFilter answers. -/
def TextR (f : Ft) (w : World) (e : Ending) (w' : World) : Prop := ∃ T : ByteArray, e = .returned (.string T) ∧ T.data.toList = fText f ∧ Below w.heap.size w w'

/-- A filter's text, of its kids'. -/
theorem fText_of {op : Int} {n t : ByteArray} {l : List Ft} (h6 : 6 ≤ op ∧ op ≤ 8) (hc : PX.Can (.mk op n t l)) :
    l ≠ [] ∧ PX.Cans l ∧ (op = 6 → l.length = 1) ∧ fText (.mk op n t l) = (if op = 6 then [110, 111, 116, 32] else []) ++ rText (if op = 8 then PX.wOr else PX.wAnd) l := by
  rw [PX.Can] at hc
  rcases hc with ⟨h | h, _⟩ | ⟨h | h, _⟩ | ⟨h, _⟩ | ⟨rfl, _, _, hl, hcs⟩ | ⟨rfl | rfl, _, _, hl, hcs⟩
  · omega
  · omega
  · omega
  · omega
  · omega
  · cases l with
    | nil => simp at hl
    | cons k r =>
      cases r with
      | cons x y => simp at hl
      | nil =>
        refine ⟨by simp, hcs, fun _ => rfl, ?_⟩
        rw [fText_not (PX.Cans.mem hcs (by simp))]
        simp [rText, sText]
  · have hne : l ≠ [] := fun e => by subst e; simp at hl
    exact ⟨hne, hcs, fun h => absurd h (by decide), by rw [fText_and hcs hne]; rfl⟩
  · have hne : l ≠ [] := fun e => by subst e; simp at hl
    exact ⟨hne, hcs, fun h => absurd h (by decide), by rw [fText_or hcs hne]; rfl⟩

set_option maxHeartbeats 8000000 in
set_option maxRecDepth 100000 in
theorem textFilter_kids (op : Int) (n t : ByteArray) (l : List Ft) (a : Option Addr) (c : Nat) (h6 : 6 ≤ op ∧ op ≤ 8) (hc : PX.Can (.mk op n t l)) (hlen : (fText (.mk op n t l)).length ≤ 1000000000000) (w : World) (hk : KsAt w (.slice a l.length c) (.mk op n t l)) (hT : Lib.Utf8Tabs 4 5 w)
    (IH : ∀ k ∈ l, ∀ (W : World) (kv : Value), KsAt W kv k → Lib.Utf8Tabs 4 5 W → Calls Tryz.prog 52 #[k.val kv] W (TextR k W)) :
    Calls Tryz.prog 52 #[.agg #[.int .i64 op, .string n, .string t, .slice a l.length c]] w (TextR (.mk op n t l) w) := by
  obtain ⟨hne, hcs, h1, htx⟩ := fText_of h6 hc
  have hll : 0 < l.length := List.length_pos_iff.2 hne
  rw [htx, List.length_append] at hlen
  obtain ⟨wd, hwd⟩ : ∃ wd, wd = (if op = 8 then PX.wOr else PX.wAnd) := ⟨_, rfl⟩
  rw [← hwd] at htx hlen
  have HTX := Lib.hid htx
  have HLEN : Hid ((rText wd l).length ≤ 1000000000000) := Lib.hid (by omega)
  have HIH := Lib.hid IH
  have HT := Lib.hid hT
  have HCS := Lib.hid hcs
  have H1 := Lib.hid h1
  rw [KsAt] at hk
  obtain ⟨_, _, hv, hlb, hk⟩ := hk
  cases hv
  have hk : ∃ b off, a = some ⟨b, off, none⟩ ∧ b < w.heap.size ∧ KAt w b off l := hk.resolve_left hne
  obtain ⟨b, off, rfl, hb, hka⟩ := hk
  have HKA := Lib.hid (KAt.get hka)
  clear hc htx hlen IH hT hcs hka hne h1
  obtain ⟨w0, hW⟩ : ∃ w0, w0 = w.alloc (.cells #[.int .i64 op, .string n, .string t, .slice (some ⟨b, off, none⟩) l.length c] 26) := ⟨_, rfl⟩
  have HB0 : Hid (Below w.heap.size w w0) := Lib.hid (by rw [hW]; exact (Below.refl _ w).alloc (Nat.le_refl _) _)
  have HF0 : Hid (CB w0 w.heap.size 26 #[.int .i64 op, .string n, .string t, .slice (some ⟨b, off, none⟩) l.length c]) := Lib.hid (by rw [hW]; exact CB.new w 26 _)
  have HW := Lib.hid hW.symm
  have hF0l : w.heap.size < w0.heap.size := by rw [hW]; simp
  clear hW
  have HFL := Lib.hid hF0l
  clear hF0l
  rcases (by omega : op = 6 ∨ op = 7 ∨ op = 8) with rfl | rfl | rfl
  · have hwd' : wd = PX.wAnd := by rw [hwd]; rfl
    have HWD := Lib.hid hwd'
    clear hwd hwd'
    have f0 := HF0.out.cell 0
    have f3 := HF0.out.cell 3
    go_enter Tryz.func52, Tryz.ntmps52
    go_wp2_with fail
    rw [HW.out]
    go_wp2_with fail
    clear f0 f3
    go_loopw [3, 37] (fun vs vi wr => ∃ (i : Nat) (S : ByteArray), vi = .int .i64 (i : Int) ∧ i ≤ l.length ∧ vs = .string S ∧ Hid (S.data.toList = rText wd (l.take i)) ∧ Hid (Below w.heap.size w wr) ∧ Hid (CB wr w.heap.size 26 #[.int .i64 6, .string n, .string t, .slice (some ⟨b, off, none⟩) l.length c])) (fun _ vi _ => l.length - (intOf vi).toNat)
    case atStart => exact ⟨0, _, rfl, Nat.zero_le _, rfl, Lib.hid (by rfl), HB0, HF0⟩
    case round =>
      obtain ⟨i, S, rfl, hi, rfl, HS, HB, HF⟩ := hrel
      have hSs : S.size ≤ 1000000000000 := by
        have := rText_take wd l i
        have := HLEN.out
        rw [Lib.size_eq, HS.out]
        omega
      by_cases hlt : i < l.length
      · have hi' : decide ((i : Int) < (l.length : Int)) = true := by simpa using hlt
        have HN := Lib.hid (rText_next wd hlt)
        obtain ⟨kv, x0, x1, x2, x3, hkk⟩ := HKA.out i hlt
        have hmem : l[i] ∈ l := List.getElem_mem hlt
        have HMK := Lib.hid (HIH.out l[i] hmem)
        have hkl : (fText l[i]).length ≤ 1000000000000 := by
          have := rText_mem wd hmem
          have := kText_le l[i]
          have := HLEN.out
          omega
        have HKL := Lib.hid hkl
        have hkk' := KsAt.below HB.out kv _ hkk
        obtain ⟨ak, ck, rfl⟩ := hkk'.shape
        have HKK := Lib.hid hkk'
        have y0 := (World.cell?_of_block (a := ⟨b, off + i * 4, none⟩) (HB.out.block b hb)).trans x0
        have y1 := (World.cell?_of_block (a := ⟨b, off + i * 4 + 1, none⟩) (HB.out.block b hb)).trans x1
        have y2 := (World.cell?_of_block (a := ⟨b, off + i * 4 + 2, none⟩) (HB.out.block b hb)).trans x2
        have y3 := (World.cell?_of_block (a := ⟨b, off + i * 4 + 3, none⟩) (HB.out.block b hb)).trans x3
        clear x0 x1 x2 x3 hkk hkk' hmem hkl
        generalize l[i] = k at y0 y1 y2 y3 HN HMK HKL HKK
        have hFl := HF.out.lt
        obtain ⟨W1, hW1⟩ : ∃ W1, W1 = wr.alloc (.cells #[.int .i64 k.op, .string k.name, .string k.text, .slice ak k.kids.length ck] 26) := ⟨_, rfl⟩
        have hl1 : Lay wr W1 := by rw [hW1]; exact (Keep.refl _ wr).alloc _
        have HB1 := Lib.hid (HB.out.trans (hl1.below.mono HB.out.size))
        have HF1 := Lib.hid (HF.out.keep hl1 (fun h => h))
        have HK1 : Hid (CB W1 wr.heap.size 26 #[.int .i64 k.op, .string k.name, .string k.text, .slice ak k.kids.length ck]) := Lib.hid (by rw [hW1]; exact CB.new wr 26 _)
        have HKK1 := Lib.hid (KsAt.below hl1.below _ _ HKK.out)
        have HW1 := Lib.hid hW1.symm
        clear hW1 hl1 HKK
        go_upto_region 16 with fail
        rw [HW1.out]
        clear HW1 y0 y1 y2 y3
        generalize wr.heap.size = K at HK1 ⊢
        by_cases hi0 : i = 0
        · have d0 : decide (0 < (i : Int)) = false := by simp; omega
          have d1 : decide (0 < i) = false := by simp; omega
          have d2 : ¬ (0 < i) := by omega
          have HI0 := Lib.hid hi0
          clear hi0
          by_cases hge : 7 ≤ k.op
          · have dk : decide (7 ≤ k.op) = true := by simpa using hge
            have HKT : Hid (kText k = 40 :: (fText k ++ [41])) := Lib.hid (by unfold kText; rw [if_pos hge])
            clear hge
            have k0 := HK1.out.cell 0
            have k1 := HK1.out.cell 1
            have k2 := HK1.out.cell 2
            have k3 := HK1.out.cell 3
            go_wp2_with fail
            clear k0 k1 k2 k3 dk
            refine (HMK.out W1 _ HKK1.out (Utf8Tabs_below HT.out HB1.out)).mono ?_
            rintro e W5 ⟨TT, rfl, hTT, hb5⟩
            have HB5 := Lib.hid (HB1.out.trans (hb5.mono HB1.out.size))
            have HF5 := Lib.hid (HF1.out.below hb5 HF1.out.lt)
            have hts : TT.size ≤ 1000000000000 := by rw [Lib.size_eq, hTT]; exact HKL.out
            have HTT := Lib.hid hTT
            clear hTT hb5
            go_wp2_with fail
            go_roundw
            case rel =>
              refine ⟨i + 1, _, rfl, by omega, rfl, Lib.hid ?_, HB5, HF5⟩
              rw [HN.out, HKT.out, ← HS.out, ← HTT.out]
              rw [if_pos HI0.out]; simp
            case measure => simp [intOf]; omega
          · have dk : decide (7 ≤ k.op) = false := by simpa using hge
            have HKT : Hid (kText k = fText k) := Lib.hid (by unfold kText; rw [if_neg hge])
            clear hge
            have k0 := HK1.out.cell 0
            have k1 := HK1.out.cell 1
            have k2 := HK1.out.cell 2
            have k3 := HK1.out.cell 3
            go_wp2_with fail
            clear k0 k1 k2 k3 dk
            refine (HMK.out W1 _ HKK1.out (Utf8Tabs_below HT.out HB1.out)).mono ?_
            rintro e W5 ⟨TT, rfl, hTT, hb5⟩
            have HB5 := Lib.hid (HB1.out.trans (hb5.mono HB1.out.size))
            have HF5 := Lib.hid (HF1.out.below hb5 HF1.out.lt)
            have hts : TT.size ≤ 1000000000000 := by rw [Lib.size_eq, hTT]; exact HKL.out
            have HTT := Lib.hid hTT
            clear hTT hb5
            go_wp2_with fail
            go_roundw
            case rel =>
              refine ⟨i + 1, _, rfl, by omega, rfl, Lib.hid ?_, HB5, HF5⟩
              rw [HN.out, HKT.out, ← HS.out, ← HTT.out]
              rw [if_pos HI0.out]; simp
            case measure => simp [intOf]; omega
        · exact absurd (H1.out (by trivial)) (by omega)
      · obtain rfl : i = l.length := by omega
        have hi' : decide ((l.length : Int) < (l.length : Int)) = false := by simp
        have HS' : Hid (S.data.toList = rText wd l) := Lib.hid (by rw [HS.out, List.take_length])
        have g0 := HF.out.cell 0
        go_wp2_with fail
        go_ret
        refine ⟨_, rfl, ?_, HB.out⟩
        rw [HTX.out, ← HS'.out]
        simp
  · have hwd' : wd = PX.wAnd := by rw [hwd]; rfl
    have HWD := Lib.hid hwd'
    clear hwd hwd'
    have f0 := HF0.out.cell 0
    have f3 := HF0.out.cell 3
    go_enter Tryz.func52, Tryz.ntmps52
    go_wp2_with fail
    rw [HW.out]
    go_wp2_with fail
    clear f0 f3
    go_loopw [3, 37] (fun vs vi wr => ∃ (i : Nat) (S : ByteArray), vi = .int .i64 (i : Int) ∧ i ≤ l.length ∧ vs = .string S ∧ Hid (S.data.toList = rText wd (l.take i)) ∧ Hid (Below w.heap.size w wr) ∧ Hid (CB wr w.heap.size 26 #[.int .i64 7, .string n, .string t, .slice (some ⟨b, off, none⟩) l.length c])) (fun _ vi _ => l.length - (intOf vi).toNat)
    case atStart => exact ⟨0, _, rfl, Nat.zero_le _, rfl, Lib.hid (by rfl), HB0, HF0⟩
    case round =>
      obtain ⟨i, S, rfl, hi, rfl, HS, HB, HF⟩ := hrel
      have hSs : S.size ≤ 1000000000000 := by
        have := rText_take wd l i
        have := HLEN.out
        rw [Lib.size_eq, HS.out]
        omega
      by_cases hlt : i < l.length
      · have hi' : decide ((i : Int) < (l.length : Int)) = true := by simpa using hlt
        have HN := Lib.hid (rText_next wd hlt)
        obtain ⟨kv, x0, x1, x2, x3, hkk⟩ := HKA.out i hlt
        have hmem : l[i] ∈ l := List.getElem_mem hlt
        have HMK := Lib.hid (HIH.out l[i] hmem)
        have hkl : (fText l[i]).length ≤ 1000000000000 := by
          have := rText_mem wd hmem
          have := kText_le l[i]
          have := HLEN.out
          omega
        have HKL := Lib.hid hkl
        have hkk' := KsAt.below HB.out kv _ hkk
        obtain ⟨ak, ck, rfl⟩ := hkk'.shape
        have HKK := Lib.hid hkk'
        have y0 := (World.cell?_of_block (a := ⟨b, off + i * 4, none⟩) (HB.out.block b hb)).trans x0
        have y1 := (World.cell?_of_block (a := ⟨b, off + i * 4 + 1, none⟩) (HB.out.block b hb)).trans x1
        have y2 := (World.cell?_of_block (a := ⟨b, off + i * 4 + 2, none⟩) (HB.out.block b hb)).trans x2
        have y3 := (World.cell?_of_block (a := ⟨b, off + i * 4 + 3, none⟩) (HB.out.block b hb)).trans x3
        clear x0 x1 x2 x3 hkk hkk' hmem hkl
        generalize l[i] = k at y0 y1 y2 y3 HN HMK HKL HKK
        have hFl := HF.out.lt
        obtain ⟨W1, hW1⟩ : ∃ W1, W1 = wr.alloc (.cells #[.int .i64 k.op, .string k.name, .string k.text, .slice ak k.kids.length ck] 26) := ⟨_, rfl⟩
        have hl1 : Lay wr W1 := by rw [hW1]; exact (Keep.refl _ wr).alloc _
        have HB1 := Lib.hid (HB.out.trans (hl1.below.mono HB.out.size))
        have HF1 := Lib.hid (HF.out.keep hl1 (fun h => h))
        have HK1 : Hid (CB W1 wr.heap.size 26 #[.int .i64 k.op, .string k.name, .string k.text, .slice ak k.kids.length ck]) := Lib.hid (by rw [hW1]; exact CB.new wr 26 _)
        have HKK1 := Lib.hid (KsAt.below hl1.below _ _ HKK.out)
        have HW1 := Lib.hid hW1.symm
        clear hW1 hl1 HKK
        go_upto_region 16 with fail
        rw [HW1.out]
        clear HW1 y0 y1 y2 y3
        generalize wr.heap.size = K at HK1 ⊢
        by_cases hi0 : i = 0
        · have d0 : decide (0 < (i : Int)) = false := by simp; omega
          have d1 : decide (0 < i) = false := by simp; omega
          have d2 : ¬ (0 < i) := by omega
          have HI0 := Lib.hid hi0
          clear hi0
          by_cases hge : 7 ≤ k.op
          · have dk : decide (7 ≤ k.op) = true := by simpa using hge
            have HKT : Hid (kText k = 40 :: (fText k ++ [41])) := Lib.hid (by unfold kText; rw [if_pos hge])
            clear hge
            have k0 := HK1.out.cell 0
            have k1 := HK1.out.cell 1
            have k2 := HK1.out.cell 2
            have k3 := HK1.out.cell 3
            go_wp2_with fail
            clear k0 k1 k2 k3 dk
            refine (HMK.out W1 _ HKK1.out (Utf8Tabs_below HT.out HB1.out)).mono ?_
            rintro e W5 ⟨TT, rfl, hTT, hb5⟩
            have HB5 := Lib.hid (HB1.out.trans (hb5.mono HB1.out.size))
            have HF5 := Lib.hid (HF1.out.below hb5 HF1.out.lt)
            have hts : TT.size ≤ 1000000000000 := by rw [Lib.size_eq, hTT]; exact HKL.out
            have HTT := Lib.hid hTT
            clear hTT hb5
            go_wp2_with fail
            go_roundw
            case rel =>
              refine ⟨i + 1, _, rfl, by omega, rfl, Lib.hid ?_, HB5, HF5⟩
              rw [HN.out, HKT.out, ← HS.out, ← HTT.out]
              rw [if_pos HI0.out]; simp
            case measure => simp [intOf]; omega
          · have dk : decide (7 ≤ k.op) = false := by simpa using hge
            have HKT : Hid (kText k = fText k) := Lib.hid (by unfold kText; rw [if_neg hge])
            clear hge
            have k0 := HK1.out.cell 0
            have k1 := HK1.out.cell 1
            have k2 := HK1.out.cell 2
            have k3 := HK1.out.cell 3
            go_wp2_with fail
            clear k0 k1 k2 k3 dk
            refine (HMK.out W1 _ HKK1.out (Utf8Tabs_below HT.out HB1.out)).mono ?_
            rintro e W5 ⟨TT, rfl, hTT, hb5⟩
            have HB5 := Lib.hid (HB1.out.trans (hb5.mono HB1.out.size))
            have HF5 := Lib.hid (HF1.out.below hb5 HF1.out.lt)
            have hts : TT.size ≤ 1000000000000 := by rw [Lib.size_eq, hTT]; exact HKL.out
            have HTT := Lib.hid hTT
            clear hTT hb5
            go_wp2_with fail
            go_roundw
            case rel =>
              refine ⟨i + 1, _, rfl, by omega, rfl, Lib.hid ?_, HB5, HF5⟩
              rw [HN.out, HKT.out, ← HS.out, ← HTT.out]
              rw [if_pos HI0.out]; simp
            case measure => simp [intOf]; omega
        · have d0 : decide (0 < (i : Int)) = true := by simp; omega
          have d1 : decide (0 < i) = true := by simp; omega
          have d2 : 0 < i := by omega
          have HI0 := Lib.hid hi0
          clear hi0
          have g0 := HF1.out.cell 0
          have hFl1 := HF1.out.lt
          obtain ⟨W2, hW2⟩ : ∃ W2, W2 = W1.alloc (.cells #[.string ⟨#[32, 97, 110, 100, 32]⟩, .string ⟨#[32, 111, 114, 32]⟩] 9) := ⟨_, rfl⟩
          have hl2 : Lay W1 W2 := by rw [hW2]; exact (Keep.refl _ W1).alloc _
          have HB2 := Lib.hid (HB1.out.trans (hl2.below.mono HB1.out.size))
          have HF2 := Lib.hid (HF1.out.keep hl2 (fun h => h))
          have HK2 := Lib.hid (HK1.out.keep hl2 (fun h => h))
          have HKK2 := Lib.hid (KsAt.below hl2.below _ _ HKK1.out)
          have HW2 := Lib.hid hW2.symm
          clear hW2 hl2
          go_upto_region 18 with fail
          rw [HW2.out]
          clear HW2 g0 hFl1
          by_cases hge : 7 ≤ k.op
          · have dk : decide (7 ≤ k.op) = true := by simpa using hge
            have HKT : Hid (kText k = 40 :: (fText k ++ [41])) := Lib.hid (by unfold kText; rw [if_pos hge])
            clear hge
            have k0 := HK2.out.cell 0
            have k1 := HK2.out.cell 1
            have k2 := HK2.out.cell 2
            have k3 := HK2.out.cell 3
            go_wp2_with fail
            clear k0 k1 k2 k3 dk
            refine (HMK.out W2 _ HKK2.out (Utf8Tabs_below HT.out HB2.out)).mono ?_
            rintro e W5 ⟨TT, rfl, hTT, hb5⟩
            have HB5 := Lib.hid (HB2.out.trans (hb5.mono HB2.out.size))
            have HF5 := Lib.hid (HF2.out.below hb5 HF2.out.lt)
            have hts : TT.size ≤ 1000000000000 := by rw [Lib.size_eq, hTT]; exact HKL.out
            have HTT := Lib.hid hTT
            clear hTT hb5
            go_wp2_with fail
            go_roundw
            case rel =>
              refine ⟨i + 1, _, rfl, by omega, rfl, Lib.hid ?_, HB5, HF5⟩
              rw [HN.out, HKT.out, ← HS.out, ← HTT.out]
              rw [if_neg HI0.out, HWD.out]; simp [PX.wAnd]
            case measure => simp [intOf]; omega
          · have dk : decide (7 ≤ k.op) = false := by simpa using hge
            have HKT : Hid (kText k = fText k) := Lib.hid (by unfold kText; rw [if_neg hge])
            clear hge
            have k0 := HK2.out.cell 0
            have k1 := HK2.out.cell 1
            have k2 := HK2.out.cell 2
            have k3 := HK2.out.cell 3
            go_wp2_with fail
            clear k0 k1 k2 k3 dk
            refine (HMK.out W2 _ HKK2.out (Utf8Tabs_below HT.out HB2.out)).mono ?_
            rintro e W5 ⟨TT, rfl, hTT, hb5⟩
            have HB5 := Lib.hid (HB2.out.trans (hb5.mono HB2.out.size))
            have HF5 := Lib.hid (HF2.out.below hb5 HF2.out.lt)
            have hts : TT.size ≤ 1000000000000 := by rw [Lib.size_eq, hTT]; exact HKL.out
            have HTT := Lib.hid hTT
            clear hTT hb5
            go_wp2_with fail
            go_roundw
            case rel =>
              refine ⟨i + 1, _, rfl, by omega, rfl, Lib.hid ?_, HB5, HF5⟩
              rw [HN.out, HKT.out, ← HS.out, ← HTT.out]
              rw [if_neg HI0.out, HWD.out]; simp [PX.wAnd]
            case measure => simp [intOf]; omega
      · obtain rfl : i = l.length := by omega
        have hi' : decide ((l.length : Int) < (l.length : Int)) = false := by simp
        have HS' : Hid (S.data.toList = rText wd l) := Lib.hid (by rw [HS.out, List.take_length])
        have g0 := HF.out.cell 0
        go_wp2_with fail
        go_ret
        refine ⟨_, rfl, ?_, HB.out⟩
        rw [HTX.out, HS'.out]
        simp
  · have hwd' : wd = PX.wOr := by rw [hwd]; rfl
    have HWD := Lib.hid hwd'
    clear hwd hwd'
    have f0 := HF0.out.cell 0
    have f3 := HF0.out.cell 3
    go_enter Tryz.func52, Tryz.ntmps52
    go_wp2_with fail
    rw [HW.out]
    go_wp2_with fail
    clear f0 f3
    go_loopw [3, 37] (fun vs vi wr => ∃ (i : Nat) (S : ByteArray), vi = .int .i64 (i : Int) ∧ i ≤ l.length ∧ vs = .string S ∧ Hid (S.data.toList = rText wd (l.take i)) ∧ Hid (Below w.heap.size w wr) ∧ Hid (CB wr w.heap.size 26 #[.int .i64 8, .string n, .string t, .slice (some ⟨b, off, none⟩) l.length c])) (fun _ vi _ => l.length - (intOf vi).toNat)
    case atStart => exact ⟨0, _, rfl, Nat.zero_le _, rfl, Lib.hid (by rfl), HB0, HF0⟩
    case round =>
      obtain ⟨i, S, rfl, hi, rfl, HS, HB, HF⟩ := hrel
      have hSs : S.size ≤ 1000000000000 := by
        have := rText_take wd l i
        have := HLEN.out
        rw [Lib.size_eq, HS.out]
        omega
      by_cases hlt : i < l.length
      · have hi' : decide ((i : Int) < (l.length : Int)) = true := by simpa using hlt
        have HN := Lib.hid (rText_next wd hlt)
        obtain ⟨kv, x0, x1, x2, x3, hkk⟩ := HKA.out i hlt
        have hmem : l[i] ∈ l := List.getElem_mem hlt
        have HMK := Lib.hid (HIH.out l[i] hmem)
        have hkl : (fText l[i]).length ≤ 1000000000000 := by
          have := rText_mem wd hmem
          have := kText_le l[i]
          have := HLEN.out
          omega
        have HKL := Lib.hid hkl
        have hkk' := KsAt.below HB.out kv _ hkk
        obtain ⟨ak, ck, rfl⟩ := hkk'.shape
        have HKK := Lib.hid hkk'
        have y0 := (World.cell?_of_block (a := ⟨b, off + i * 4, none⟩) (HB.out.block b hb)).trans x0
        have y1 := (World.cell?_of_block (a := ⟨b, off + i * 4 + 1, none⟩) (HB.out.block b hb)).trans x1
        have y2 := (World.cell?_of_block (a := ⟨b, off + i * 4 + 2, none⟩) (HB.out.block b hb)).trans x2
        have y3 := (World.cell?_of_block (a := ⟨b, off + i * 4 + 3, none⟩) (HB.out.block b hb)).trans x3
        clear x0 x1 x2 x3 hkk hkk' hmem hkl
        generalize l[i] = k at y0 y1 y2 y3 HN HMK HKL HKK
        have hFl := HF.out.lt
        obtain ⟨W1, hW1⟩ : ∃ W1, W1 = wr.alloc (.cells #[.int .i64 k.op, .string k.name, .string k.text, .slice ak k.kids.length ck] 26) := ⟨_, rfl⟩
        have hl1 : Lay wr W1 := by rw [hW1]; exact (Keep.refl _ wr).alloc _
        have HB1 := Lib.hid (HB.out.trans (hl1.below.mono HB.out.size))
        have HF1 := Lib.hid (HF.out.keep hl1 (fun h => h))
        have HK1 : Hid (CB W1 wr.heap.size 26 #[.int .i64 k.op, .string k.name, .string k.text, .slice ak k.kids.length ck]) := Lib.hid (by rw [hW1]; exact CB.new wr 26 _)
        have HKK1 := Lib.hid (KsAt.below hl1.below _ _ HKK.out)
        have HW1 := Lib.hid hW1.symm
        clear hW1 hl1 HKK
        go_upto_region 16 with fail
        rw [HW1.out]
        clear HW1 y0 y1 y2 y3
        generalize wr.heap.size = K at HK1 ⊢
        by_cases hi0 : i = 0
        · have d0 : decide (0 < (i : Int)) = false := by simp; omega
          have d1 : decide (0 < i) = false := by simp; omega
          have d2 : ¬ (0 < i) := by omega
          have HI0 := Lib.hid hi0
          clear hi0
          by_cases hge : 7 ≤ k.op
          · have dk : decide (7 ≤ k.op) = true := by simpa using hge
            have HKT : Hid (kText k = 40 :: (fText k ++ [41])) := Lib.hid (by unfold kText; rw [if_pos hge])
            clear hge
            have k0 := HK1.out.cell 0
            have k1 := HK1.out.cell 1
            have k2 := HK1.out.cell 2
            have k3 := HK1.out.cell 3
            go_wp2_with fail
            clear k0 k1 k2 k3 dk
            refine (HMK.out W1 _ HKK1.out (Utf8Tabs_below HT.out HB1.out)).mono ?_
            rintro e W5 ⟨TT, rfl, hTT, hb5⟩
            have HB5 := Lib.hid (HB1.out.trans (hb5.mono HB1.out.size))
            have HF5 := Lib.hid (HF1.out.below hb5 HF1.out.lt)
            have hts : TT.size ≤ 1000000000000 := by rw [Lib.size_eq, hTT]; exact HKL.out
            have HTT := Lib.hid hTT
            clear hTT hb5
            go_wp2_with fail
            go_roundw
            case rel =>
              refine ⟨i + 1, _, rfl, by omega, rfl, Lib.hid ?_, HB5, HF5⟩
              rw [HN.out, HKT.out, ← HS.out, ← HTT.out]
              rw [if_pos HI0.out]; simp
            case measure => simp [intOf]; omega
          · have dk : decide (7 ≤ k.op) = false := by simpa using hge
            have HKT : Hid (kText k = fText k) := Lib.hid (by unfold kText; rw [if_neg hge])
            clear hge
            have k0 := HK1.out.cell 0
            have k1 := HK1.out.cell 1
            have k2 := HK1.out.cell 2
            have k3 := HK1.out.cell 3
            go_wp2_with fail
            clear k0 k1 k2 k3 dk
            refine (HMK.out W1 _ HKK1.out (Utf8Tabs_below HT.out HB1.out)).mono ?_
            rintro e W5 ⟨TT, rfl, hTT, hb5⟩
            have HB5 := Lib.hid (HB1.out.trans (hb5.mono HB1.out.size))
            have HF5 := Lib.hid (HF1.out.below hb5 HF1.out.lt)
            have hts : TT.size ≤ 1000000000000 := by rw [Lib.size_eq, hTT]; exact HKL.out
            have HTT := Lib.hid hTT
            clear hTT hb5
            go_wp2_with fail
            go_roundw
            case rel =>
              refine ⟨i + 1, _, rfl, by omega, rfl, Lib.hid ?_, HB5, HF5⟩
              rw [HN.out, HKT.out, ← HS.out, ← HTT.out]
              rw [if_pos HI0.out]; simp
            case measure => simp [intOf]; omega
        · have d0 : decide (0 < (i : Int)) = true := by simp; omega
          have d1 : decide (0 < i) = true := by simp; omega
          have d2 : 0 < i := by omega
          have HI0 := Lib.hid hi0
          clear hi0
          have g0 := HF1.out.cell 0
          have hFl1 := HF1.out.lt
          obtain ⟨W2, hW2⟩ : ∃ W2, W2 = W1.alloc (.cells #[.string ⟨#[32, 97, 110, 100, 32]⟩, .string ⟨#[32, 111, 114, 32]⟩] 9) := ⟨_, rfl⟩
          have hl2 : Lay W1 W2 := by rw [hW2]; exact (Keep.refl _ W1).alloc _
          have HB2 := Lib.hid (HB1.out.trans (hl2.below.mono HB1.out.size))
          have HF2 := Lib.hid (HF1.out.keep hl2 (fun h => h))
          have HK2 := Lib.hid (HK1.out.keep hl2 (fun h => h))
          have HKK2 := Lib.hid (KsAt.below hl2.below _ _ HKK1.out)
          have HW2 := Lib.hid hW2.symm
          clear hW2 hl2
          go_upto_region 18 with fail
          rw [HW2.out]
          clear HW2 g0 hFl1
          by_cases hge : 7 ≤ k.op
          · have dk : decide (7 ≤ k.op) = true := by simpa using hge
            have HKT : Hid (kText k = 40 :: (fText k ++ [41])) := Lib.hid (by unfold kText; rw [if_pos hge])
            clear hge
            have k0 := HK2.out.cell 0
            have k1 := HK2.out.cell 1
            have k2 := HK2.out.cell 2
            have k3 := HK2.out.cell 3
            go_wp2_with fail
            clear k0 k1 k2 k3 dk
            refine (HMK.out W2 _ HKK2.out (Utf8Tabs_below HT.out HB2.out)).mono ?_
            rintro e W5 ⟨TT, rfl, hTT, hb5⟩
            have HB5 := Lib.hid (HB2.out.trans (hb5.mono HB2.out.size))
            have HF5 := Lib.hid (HF2.out.below hb5 HF2.out.lt)
            have hts : TT.size ≤ 1000000000000 := by rw [Lib.size_eq, hTT]; exact HKL.out
            have HTT := Lib.hid hTT
            clear hTT hb5
            go_wp2_with fail
            go_roundw
            case rel =>
              refine ⟨i + 1, _, rfl, by omega, rfl, Lib.hid ?_, HB5, HF5⟩
              rw [HN.out, HKT.out, ← HS.out, ← HTT.out]
              rw [if_neg HI0.out, HWD.out]; simp [PX.wOr]
            case measure => simp [intOf]; omega
          · have dk : decide (7 ≤ k.op) = false := by simpa using hge
            have HKT : Hid (kText k = fText k) := Lib.hid (by unfold kText; rw [if_neg hge])
            clear hge
            have k0 := HK2.out.cell 0
            have k1 := HK2.out.cell 1
            have k2 := HK2.out.cell 2
            have k3 := HK2.out.cell 3
            go_wp2_with fail
            clear k0 k1 k2 k3 dk
            refine (HMK.out W2 _ HKK2.out (Utf8Tabs_below HT.out HB2.out)).mono ?_
            rintro e W5 ⟨TT, rfl, hTT, hb5⟩
            have HB5 := Lib.hid (HB2.out.trans (hb5.mono HB2.out.size))
            have HF5 := Lib.hid (HF2.out.below hb5 HF2.out.lt)
            have hts : TT.size ≤ 1000000000000 := by rw [Lib.size_eq, hTT]; exact HKL.out
            have HTT := Lib.hid hTT
            clear hTT hb5
            go_wp2_with fail
            go_roundw
            case rel =>
              refine ⟨i + 1, _, rfl, by omega, rfl, Lib.hid ?_, HB5, HF5⟩
              rw [HN.out, HKT.out, ← HS.out, ← HTT.out]
              rw [if_neg HI0.out, HWD.out]; simp [PX.wOr]
            case measure => simp [intOf]; omega
      · obtain rfl : i = l.length := by omega
        have hi' : decide ((l.length : Int) < (l.length : Int)) = false := by simp
        have HS' : Hid (S.data.toList = rText wd l) := Lib.hid (by rw [HS.out, List.take_length])
        have g0 := HF.out.cell 0
        go_wp2_with fail
        go_ret
        refine ⟨_, rfl, ?_, HB.out⟩
        rw [HTX.out, HS'.out]
        simp
end Go.Proofs.YtkckgjanfiiieaaGreatDoor

namespace Go.Proofs.YtkckgjanfiiieaaGreatDoor
open Go.RowKit Go

theorem textFilter_any : ∀ (m : Nat) (f : Ft), f.count ≤ m → PX.Can f → Sm 100000 f → (fText f).length ≤ 1000000000000 → ∀ (w : World) (kv : Value), KsAt w kv f → Lib.Utf8Tabs 4 5 w → Calls Tryz.prog 52 #[f.val kv] w (TextR f w)
  | 0, .mk _ _ _ _, hn, _, _, _, _, _, _, _ => by rw [Ft.count] at hn; omega
  | m + 1, .mk op n t l, hn, hc, hs, hlen, w, kv, hk, hT => by
    obtain ⟨a, c, rfl⟩ := hk.shape
    rw [Ft.count] at hn
    rw [Sm] at hs
    obtain ⟨hn1, hn2, hsm⟩ := hs
    by_cases h6 : 6 ≤ op
    · have h8 : op ≤ 8 := by
        rw [PX.Can] at hc
        rcases hc with ⟨h | h, _⟩ | ⟨h | h, _⟩ | ⟨h, _⟩ | ⟨h, _⟩ | ⟨h | h, _⟩ <;> omega
      obtain ⟨hne, hcs, _, htx⟩ := fText_of ⟨h6, h8⟩ hc
      refine textFilter_kids op n t l a c ⟨h6, h8⟩ hc hlen w hk hT fun k hkm W kv hkk hTW => ?_
      refine textFilter_any m k ?_ (PX.Cans.mem hcs hkm) (Sms.mem hsm hkm) ?_ W kv hkk hTW
      · have := PX.count_mem hkm
        omega
      · have h1 := kText_le k
        have h2 := rText_mem (if op = 8 then PX.wOr else PX.wAnd) hkm
        rw [htx, List.length_append] at hlen
        omega
    · have hl : l = [] := by
        rw [PX.Can] at hc
        rcases hc with ⟨_, _, _, h⟩ | ⟨_, _, h⟩ | ⟨_, h⟩ | ⟨h, _⟩ | ⟨h | h, _⟩
        · exact h
        · exact h
        · exact h
        · omega
        · omega
        · omega
      subst hl
      by_cases h5 : op = 5
      · subst h5
        exact (textFilter_field n t a c hn1 hn2 w hT).mono fun e w' ⟨he, hb⟩ => ⟨_, he, by simp, hb⟩
      · have h1 : 1 ≤ op ∧ op ≤ 4 := by
          rw [PX.Can] at hc
          rcases hc with ⟨h | h, _⟩ | ⟨h | h, _⟩ | ⟨h, _⟩ | ⟨h, _⟩ | ⟨h | h, _⟩ <;> omega
        exact (textFilter_leaf op n t a c h1 hn2 w hT).mono fun e w' ⟨he, hb⟩ => ⟨_, he, by simp, hb⟩
end Go.Proofs.YtkckgjanfiiieaaGreatDoor
