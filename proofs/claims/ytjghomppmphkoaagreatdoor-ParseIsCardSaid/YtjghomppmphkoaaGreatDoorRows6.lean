/-
  THE DOCUMENT'S OWN Rows.
-/
import Derived.Test.YtjghomppmphkoaaGreatDoorTree1
import Derived.Test.YtjghomppmphkoaaGreatDoorStrs
namespace Go.Proofs.YtjghomppmphkoaaGreatDoor
open Go.RowKit Go

/-- A row's cells. -/
def rowC (r : Ft.Row) : List Value := [.int .i64 r.op, .string r.name, .string r.text, .int .i64 (r.kids : Nat), .int .i64 (r.deep : Nat)]
def flatW : List Ft.Row → List Value
  | [] => []
  | r :: l => rowC r ++ flatW l
theorem flatW_length : ∀ R : List Ft.Row, (flatW R).length = R.length * 5
  | [] => rfl
  | x :: r => by simp only [flatW, List.length_append, flatW_length r, rowC, List.length_cons, List.length_nil]; omega
theorem flatW_append : ∀ R S : List Ft.Row, flatW (R ++ S) = flatW R ++ flatW S
  | [], _ => rfl
  | x :: r, S => by simp only [List.cons_append, flatW, flatW_append r S, List.append_assoc]
theorem flatW_one : ∀ (R : List Ft.Row), ∀ u ∈ flatW R, u.oneCell' = true
  | [], u, h => by simp [flatW] at h
  | x :: r, u, h => by
    rw [flatW, List.mem_append] at h
    rcases h with h | h
    · simp only [rowC, List.mem_cons, List.not_mem_nil, or_false] at h
      rcases h with rfl | rfl | rfl | rfl | rfl <;> rfl
    · exact flatW_one r u h

theorem info32 : (Tryz.prog.info? 114).map (fun i => (i.zero, i.size, i.bytes)) = some (some (.agg #[.int .i64 0, .string ⟨#[]⟩, .string ⟨#[]⟩, .int .i64 0, .int .i64 0]), 5, 56) := by kernel_rfl

theorem elem32 : ∃ i z, Elem Tryz.prog 111 114 i z 5 56 := by
  obtain ⟨i, hi, hz, hs, hb⟩ := info_parts info32
  exact ⟨i, _, Tryz.underlying111, hi, hz, hs, hb, by kernel_rfl⟩

theorem rowsOf_snoc (d : Nat) : ∀ (l : List Ft) (x : Ft), Ft.rowsOf d (l ++ [x]) = Ft.rowsOf d l ++ Ft.rows d x
  | [], x => by simp [Ft.rowsOf]
  | y :: r, x => by rw [List.cons_append, Ft.rowsOf, Ft.rowsOf, rowsOf_snoc d r x, List.append_assoc]

theorem counts_mem : ∀ (l : List Ft) (i : Nat) (h : i < l.length), (l[i]).count ≤ Ft.counts l
  | [], i, h => by simp at h
  | x :: r, 0, _ => by rw [Ft.counts]; simp
  | x :: r, i + 1, h => by
    have := counts_mem r i (by simpa using h)
    rw [Ft.counts]
    simp only [List.getElem_cons_succ]
    omega

theorem counts_take : ∀ (l : List Ft) (i : Nat), Ft.counts (l.take i) ≤ Ft.counts l
  | [], i => by simp [Ft.counts]
  | x :: r, 0 => by simp [Ft.counts]
  | x :: r, i + 1 => by
    have := counts_take r i
    rw [List.take_succ_cons, Ft.counts, Ft.counts]
    omega

theorem lay_keepB {w0 W w' : World} {sv : Value} (h : Lay w0 W) (k : Keep (At sv) W w') (ha : ∀ b, At sv b → w0.heap.size ≤ b) : Lay w0 w' :=
  ⟨k.os.trans h.os, k.tape.trans h.tape, k.output.trans h.output, Nat.le_trans h.size k.size, Nat.le_trans h.drawn k.drawn, fun b hb _ =>
    (k.block b (Nat.lt_of_lt_of_le hb h.size) (fun hv => by have := ha b hv; omega)).trans (h.block hb)⟩

set_option maxHeartbeats 4000000 in
set_option maxRecDepth 100000 in
theorem rows_any : ∀ (m : Nat) (f : Ft) (d : Nat) (w : World) (v : Value), f.count ≤ m → m ≤ 100000 → d + f.count ≤ 1000000 → FAt w v f →
    Calls Tryz.prog 54 #[v, .int .i64 (d : Nat)] w fun e w' => ∃ v', e = .returned v' ∧ Rk 5 (fun b => w.heap.size ≤ b) w' v' (Ft.rows d f).length (flatW (Ft.rows d f)) ∧ Lay w w' := by
  intro m
  induction m with
  | zero =>
    intro f d w v h
    cases f with
    | mk o n t k => rw [Ft.count] at h; omega
  | succ m ih =>
    intro f d w v hm hm2 hd hf
    obtain ⟨i32, z32, E32⟩ := elem32
    have hd0 := hd
    obtain ⟨o, nm, t, ks⟩ := f
    obtain ⟨kv, rfl, hks⟩ := hf
    rw [KsAt] at hks
    obtain ⟨a, cap, rfl, hl63, hks⟩ := hks
    rw [Ft.count] at hm hd
    have IH := Lib.hid ih
    have HK := Lib.hid hks
    clear ih hks
    simp only [Ft.val, Ft.op, Ft.name, Ft.text]
    go_enter Tryz.func54, Tryz.ntmps54
    go_wp2_with fail
    go_loopw [5, 23] (fun vo vi wr => ∃ (i : Nat) (pre : List Ft.Row), vi = .int .i64 i ∧ i ≤ ks.length ∧ pre = ⟨o, nm, t, ks.length, d⟩ :: Ft.rowsOf (d + 1) (ks.take i) ∧ Rk 5 (fun b => w.heap.size ≤ b) wr vo pre.length (flatW pre) ∧ Lay w wr) (fun _ vi _ => ks.length - (intOf vi).toNat)
    case atStart =>
      refine ⟨0, _, rfl, Nat.zero_le _, rfl, ?_, ((Keep.refl _ _).alloc _).alloc _⟩
      have h := rk_new 5 (w.alloc (.cells #[.int .i64 o, .string nm, .string t, .slice a ks.length cap] 26)) 1 (rowC ⟨o, nm, t, ks.length, d⟩) 114 rfl (by omega)
      rw [show (w.alloc (.cells #[.int .i64 o, .string nm, .string t, .slice a ks.length cap] 26)).heap.size = w.heap.size + 1 by simp] at h
      rw [List.take_zero, Ft.rowsOf]
      simp only [flatW, List.append_nil, List.length_singleton]
      exact h.mono fun b hb _ => by rw [hb]; omega
    case round =>
      obtain ⟨i, pre, rfl, hi, hpre, hrk, hl⟩ := hrel
      obtain ⟨ao, co, rfl⟩ := hrk.shape
      have HRK := Lib.hid hrk
      have HL := Lib.hid hl
      have HPRE := Lib.hid hpre
      have hpl : pre.length ≤ 1 + Ft.counts (ks.take i) := by rw [hpre, List.length_cons, Ft.rowsOf_length]; omega
      have hct := counts_take ks i
      clear hpre
      by_cases hlt : i < ks.length
      · rcases HK.out with h0 | ⟨b, off, rfl, hbl, hka⟩
        · exact absurd hlt (by rw [h0]; simp)
        obtain ⟨kv, x0, x1, x2, x3, x4⟩ := KAt.get (KAt.below (Lay.below hl) b hbl off ks hka) i hlt
        have hcm := counts_mem ks i hlt
        have HSN : Hid (Ft.rowsOf (d + 1) (ks.take (i + 1)) = Ft.rowsOf (d + 1) (ks.take i) ++ Ft.rows (d + 1) ks[i]) := Lib.hid (by
          rw [List.take_succ_eq_append_getElem hlt, rowsOf_snoc])
        have hxl : (Ft.rows (d + 1) ks[i]).length ≤ (ks[i]).count := Nat.le_of_eq (Ft.rows_length (d + 1) ks[i])
        have hbl2 : b < wr.heap.size := Nat.lt_of_lt_of_le hbl hl.size
        generalize ks[i] = x at x0 x1 x2 x3 x4 hcm HSN hxl
        obtain ⟨ak, ck, rfl⟩ := x4.shape
        have hal : Lay wr (wr.alloc (.cells #[.int .i64 x.op, .string x.name, .string x.text, .slice ak x.kids.length ck] 26)) := (Keep.refl _ _).alloc _
        have HAL := Lib.hid hal
        have HCX := Lib.hid (IH.out x (d + 1) (wr.alloc (.cells #[.int .i64 x.op, .string x.name, .string x.text, .slice ak x.kids.length ck] 26)) (x.val (.slice ak x.kids.length ck)) (by omega) (by omega) (by omega) ⟨_, rfl, KsAt.below (hal.below.mono (Nat.le_refl _)) _ x x4⟩)
        have hwr := hl.size
        clear hrk hl hka x4 hal
        obtain ⟨X, hX⟩ : ∃ X, X = Ft.rows (d + 1) x := ⟨_, rfl⟩
        rw [← hX] at HCX HSN hxl
        clear hX
        go_wp2_with (first | (go_at_call 54; refine HCX.out.mono ?_; rintro e w3 ⟨v3, rfl, hr3, hl3⟩; obtain ⟨a3, c3, rfl⟩ := hr3.shape) | (at_builtin; refine wpList_append_rk E32 _ rfl _ _ 111 rfl (G := fun b => w.heap.size ≤ b) rfl (Rk.lay HRK.out (Keep.trans HAL.out hl3)) ?c1 (.slice a3 X.length c3) X.length (flatW X) rfl (Rk.src Tryz.underlying111 hr3 (flatW_one X)) ?c2 ?c3 ?_))
        case c1 =>
          intro b hb
          have h := (Keep.trans HAL.out hl3).size
          omega
        case c2 => omega
        case c3 => omega
        intro v' w2 hrk2 hk2
        have hR : Rk 5 (fun b => w.heap.size ≤ b) w2 v' (pre ++ X).length (flatW (pre ++ X)) := by
          rw [flatW_append, List.length_append]
          exact hrk2.mono fun b h _ => h.1
        have hL2 : Lay w w2 := lay_keepB (Keep.trans HL.out (Keep.trans HAL.out hl3)) hk2 fun b hb => (HRK.out.at hb).1
        have HR := Lib.hid hR
        have HL2 := Lib.hid hL2
        clear hrk2 hk2 hr3 hl3 hR hL2
        go_wp2_with fail
        go_roundw
        case rel => exact ⟨i + 1, pre ++ X, by go_num, by omega, by rw [HPRE.out, HSN.out]; rfl, HR.out, HL2.out⟩
        case measure => simp [intOf]; omega
      · obtain rfl : i = ks.length := by omega
        have e := HPRE.out
        rw [List.take_length] at e
        have HE := Lib.hid e
        clear hrk hl e
        go_wp2_with fail
        go_ret
        refine ⟨_, rfl, ?_, HL.out⟩
        rw [Ft.rows, ← HE.out]
        exact HRK.out

end Go.Proofs.YtjghomppmphkoaaGreatDoor
