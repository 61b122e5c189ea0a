/-
  A FILTER'S TOKENS, and what the parser makes of them: no program in it.
  A QUERY'S TOKENS, and what the parser makes of them: no program in it.
  TOKENS, SPELLED, ARE THOSE TOKENS: no program in it.
  A QUERY, SPELLED: no program in it.
  A QUERY, SPELLED, IS PARSED AS THE QUERY: no program in it.
  QUERIES MADE OF NUMBERS CAN BE SAID: no program in it.
  MADE QUERIES' TEXTS: no program in it.
  WHERE SPELLED TOKENS STAND; times and limits, parsed: no program in it.
-/
import Derived.Test.YtkckgjanfiiieaaGreatDoorPxA
import Derived.Test.YtkckgjanfiiieaaGreatDoorTrA
import Derived.Test.YtkckgjanfiiieaaGreatDoorLxA
namespace Go.Proofs.YtkckgjanfiiieaaGreatDoor.PX
open Go LX

/-- A token, wherever it stands: its kind, what it says, its number. -/
abbrev K := Nat × List UInt8 × Int
def kW (s : List UInt8) : K := (2, s, 0)
def kS (s : List UInt8) : K := (5, s, 0)
def kT (s : List UInt8) : K := (4, s, 0)
def kN (s : List UInt8) : K := (1, s, 0)
def Fits (t : Tok) (k : K) : Prop := t.kind = k.1 ∧ t.says = k.2.1 ∧ t.n = k.2.2

/-- From token i on stand these. -/
def Runs (ts : List Tok) (i : Nat) (l : List K) : Prop := i + l.length ≤ ts.length ∧ ∀ j (h : j < l.length), Fits (tk ts (i + j)) l[j]

theorem Runs.left {ts : List Tok} {i : Nat} {a b : List K} (h : Runs ts i (a ++ b)) : Runs ts i a := by
  obtain ⟨h1, h2⟩ := h
  rw [List.length_append] at h1
  refine ⟨by omega, fun j hj => ?_⟩
  have := h2 j (by rw [List.length_append]; omega)
  rwa [List.getElem_append_left hj] at this
theorem Runs.right {ts : List Tok} {i : Nat} {a b : List K} (h : Runs ts i (a ++ b)) : Runs ts (i + a.length) b := by
  obtain ⟨h1, h2⟩ := h
  rw [List.length_append] at h1
  refine ⟨by omega, fun j hj => ?_⟩
  have := h2 (a.length + j) (by rw [List.length_append]; omega)
  rw [List.getElem_append_right (by omega)] at this
  simpa [Nat.add_assoc] using this
theorem Runs.head {ts : List Tok} {i : Nat} {k : K} {l : List K} (h : Runs ts i (k :: l)) : Fits (tk ts i) k := h.2 0 (by simp)
theorem Runs.tail {ts : List Tok} {i : Nat} {k : K} {l : List K} (h : Runs ts i (k :: l)) : Runs ts (i + 1) l := Runs.right (a := [k]) h

theorem isT_word {t : Tok} {s u : List UInt8} (h : Fits t (kW s)) : isT t u = decide (s = u) := by
  obtain ⟨h1, h2, _⟩ := h
  simp only [kW] at h1 h2
  simp [isT, h1, h2]
theorem isT_sign {t : Tok} {s u : List UInt8} (h : Fits t (kS s)) : isT t u = decide (s = u) := by
  obtain ⟨h1, h2, _⟩ := h
  simp only [kS] at h1 h2
  simp [isT, h1, h2]
theorem want_word {ts : List Tok} {i : Nat} {s : List UInt8} (h : Fits (tk ts i) (kW s)) : want ts s i = .ok ((), i + 1) := by
  unfold want
  rw [if_pos (by rw [isT_word h]; simp)]
theorem want_sign {ts : List Tok} {i : Nat} {s : List UInt8} (h : Fits (tk ts i) (kS s)) : want ts s i = .ok ((), i + 1) := by
  unfold want
  rw [if_pos (by rw [isT_sign h]; simp)]
theorem token_fits {ts : List Tok} {i : Nat} {k : K} (h : Fits (tk ts i) k) : token ts k.1 i = .ok (tk ts i, i + 1) := by
  unfold token
  rw [if_pos h.1]

mutual
/-- A filter's tokens. -/
def ftk : Ft → List K
  | .mk op n t kids =>
    if op = 1 then [kW wTrue] else if op = 2 then [kW wFalse]
    else if op = 3 then [kW wWord, kT t.data.toList] else if op = 4 then [kW wHas, kT t.data.toList]
    else if op = 5 then [kW wField, kN n.data.toList, kS wEq, kT t.data.toList]
    else if op = 6 then kW wNot :: rtk wAnd kids
    else if op = 7 then rtk wAnd kids else rtk wOr kids
/-- A row's tokens. -/
def rtk (w : List UInt8) : List Ft → List K
  | [] => []
  | k :: r => (if 7 ≤ k.op then kS wOpen :: (ftk k ++ [kS wShut]) else ftk k) ++ stk w r
/-- The rest of a row's tokens. -/
def stk (w : List UInt8) : List Ft → List K
  | [] => []
  | k :: r => kW w :: ((if 7 ≤ k.op then kS wOpen :: (ftk k ++ [kS wShut]) else ftk k) ++ stk w r)
end

/-- A kid's tokens. -/
def ktk (k : Ft) : List K := if 7 ≤ k.op then kS wOpen :: (ftk k ++ [kS wShut]) else ftk k
theorem rtk_cons (w : List UInt8) (k : Ft) (r : List Ft) : rtk w (k :: r) = ktk k ++ stk w r := by rw [rtk]; rfl
theorem stk_cons (w : List UInt8) (k : Ft) (r : List Ft) : stk w (k :: r) = kW w :: (ktk k ++ stk w r) := by rw [stk]; rfl

theorem rest_reads {ts : List Tok} {w : List UInt8} {one : Nat → PR Ft} : ∀ (l : List Ft) (f i : Nat), (∀ k ∈ l, ∀ i, Runs ts i (ktk k) → isT (tk ts (i + (ktk k).length)) wAnd = false ∨ w = wAnd → one i = .ok (k, i + (ktk k).length)) → (w = wAnd ∨ w = wOr) → l.length ≤ f → Runs ts i (stk w l) →
    isT (tk ts (i + (stk w l).length)) w = false → isT (tk ts (i + (stk w l).length)) wAnd = false → rest ts w one f i = .ok (l, i + (stk w l).length)
  | [], f, i, _, _, _, _, hn, _ => by
    rw [stk] at hn ⊢
    simp only [List.length_nil, Nat.add_zero] at hn ⊢
    cases f
    · rfl
    · rw [rest, hn]; rfl
  | k :: r, 0, i, _, _, hf, _, _, _ => by simp at hf
  | k :: r, f + 1, i, ho, hw, hf, hr, hn, hna => by
    rw [stk_cons] at hr hn hna ⊢
    have h1 := isT_word (u := w) hr.head
    simp only [decide_true] at h1
    have h2 := hr.tail
    have h3 : i + 1 + (ktk k).length + (stk w r).length = i + (kW w :: (ktk k ++ stk w r)).length := by simp only [List.length_cons, List.length_append]; omega
    have hx : isT (tk ts (i + 1 + (ktk k).length)) wAnd = false ∨ w = wAnd := by
      rcases hw with hw | hw
      · exact .inr hw
      · left
        cases r with
        | nil =>
          have e : (stk w []).length = 0 := by rw [stk]; rfl
          have h7 : i + 1 + (ktk k).length = i + (kW w :: (ktk k ++ stk w [])).length := by rw [← h3, e]; rfl
          rw [h7]
          exact hna
        | cons k2 r2 =>
          have h4 := h2.right
          rw [stk_cons] at h4
          rw [isT_word h4.head, hw]
          decide
    have h5 := ho k (by simp) (i + 1) h2.left hx
    have h6 := rest_reads r f (i + 1 + (ktk k).length) (fun q hq => ho q (by simp [hq])) hw (by simpa using hf) h2.right (by rw [h3]; exact hn) (by rw [h3]; exact hna)
    rw [rest, if_pos h1, h5]
    dsimp only
    rw [h6]
    dsimp only
    rw [h3]

theorem stk_length (w : List UInt8) : ∀ l : List Ft, l.length ≤ (stk w l).length
  | [] => by simp
  | k :: r => by
    rw [stk_cons]
    have := stk_length w r
    simp only [List.length_cons, List.length_append]
    omega

/-- A row of kids, the first among them. -/
theorem row_reads {ts : List Tok} {w : List UInt8} {op : Int} {one : Nat → PR Ft} (l : List Ft) (hl : l ≠ []) (i : Nat) (ho : ∀ k ∈ l, ∀ i, Runs ts i (ktk k) → isT (tk ts (i + (ktk k).length)) wAnd = false ∨ w = wAnd → one i = .ok (k, i + (ktk k).length)) (hw : w = wAnd ∨ w = wOr) (hr : Runs ts i (rtk w l))
    (hn : isT (tk ts (i + (rtk w l).length)) w = false) (hna : isT (tk ts (i + (rtk w l).length)) wAnd = false) : row ts w op one i = .ok (join op l, i + (rtk w l).length) := by
  cases l with
  | nil => exact absurd rfl hl
  | cons k r =>
    rw [rtk_cons] at hr hn hna ⊢
    have h3 : i + (ktk k).length + (stk w r).length = i + (ktk k ++ stk w r).length := by simp only [List.length_append]; omega
    have hx : isT (tk ts (i + (ktk k).length)) wAnd = false ∨ w = wAnd := by
      rcases hw with hw | hw
      · exact .inr hw
      · left
        cases r with
        | nil =>
          have e : (stk w []).length = 0 := by rw [stk]; rfl
          have h7 : i + (ktk k).length = i + (ktk k ++ stk w []).length := by rw [← h3, e]; rfl
          rw [h7]
          exact hna
        | cons k2 r2 =>
          have h4 := hr.right
          rw [stk_cons] at h4
          rw [isT_word h4.head, hw]
          decide
    have h5 := ho k (by simp) i hr.left hx
    have hlen := hr.right.1
    have hsl := stk_length w r
    have h6 := rest_reads r ts.length (i + (ktk k).length) (fun q hq => ho q (by simp [hq])) hw (by omega) hr.right (by rw [h3]; exact hn) (by rw [h3]; exact hna)
    unfold row
    rw [h5]
    dsimp only
    rw [h6]
    dsimp only
    rw [h3]

mutual
/-- How many nots and brackets stand within one another. -/
def dn : Ft → Nat
  | .mk op _ _ kids => if op = 6 then 1 + dns kids else dns kids
def dns : List Ft → Nat
  | [] => 0
  | k :: r => max (if 7 ≤ k.op then 1 + dn k else dn k) (dns r)
end
/-- A kid's. -/
def dk (k : Ft) : Nat := if 7 ≤ k.op then 1 + dn k else dn k
theorem dk_le : ∀ {l : List Ft} {k : Ft}, k ∈ l → dk k ≤ dns l
  | k :: r, q, h => by
    rw [dns]
    rcases List.mem_cons.1 h with rfl | h
    · exact Nat.le_max_left _ _
    · exact Nat.le_trans (dk_le h) (Nat.le_max_right _ _)

mutual
/-- A filter that a text can say. -/
def Can : Ft → Prop
  | .mk op n t kids =>
    ((op = 1 ∨ op = 2) ∧ n = ⟨#[]⟩ ∧ t = ⟨#[]⟩ ∧ kids = []) ∨ ((op = 3 ∨ op = 4) ∧ n = ⟨#[]⟩ ∧ kids = []) ∨ (op = 5 ∧ kids = []) ∨
    (op = 6 ∧ n = ⟨#[]⟩ ∧ t = ⟨#[]⟩ ∧ kids.length = 1 ∧ Cans kids) ∨ ((op = 7 ∨ op = 8) ∧ n = ⟨#[]⟩ ∧ t = ⟨#[]⟩ ∧ 2 ≤ kids.length ∧ Cans kids)
def Cans : List Ft → Prop
  | [] => True
  | k :: r => Can k ∧ Cans r
end
theorem Cans.mem : ∀ {l : List Ft} {k : Ft}, Cans l → k ∈ l → Can k
  | q :: r, k, h, hk => by
    rw [Cans] at h
    rcases List.mem_cons.1 hk with rfl | hk
    · exact h.1
    · exact Cans.mem h.2 hk

theorem count_mem : ∀ {l : List Ft} {k : Ft}, k ∈ l → k.count ≤ Ft.counts l
  | q :: r, k, hk => by
    rw [Ft.counts]
    rcases List.mem_cons.1 hk with rfl | hk
    · omega
    · have := count_mem hk
      omega

theorem bs_toList (t : ByteArray) : bs t.data.toList = t := by unfold bs; simp

/-- A leaf's tokens are the leaf. -/
theorem leaf_reads {ts : List Tok} {d i : Nat} {op : Int} {n t : ByteArray} (h : Can (.mk op n t [])) (h5 : op ≤ 5) (hr : Runs ts i (ftk (.mk op n t []))) : atom ts d i = .ok (.mk op n t [], i + (ftk (.mk op n t [])).length) := by
  have hno : ∀ s u : List UInt8, Fits (tk ts i) (kW s) → s ≠ u → isT (tk ts i) u = false := fun s u hf hne => by rw [isT_word hf]; simp [hne]
  have go : ∀ s, Fits (tk ts i) (kW s) → s ≠ wNot → s ≠ wOpen → atom ts d i = leaf ts i := fun s hf h1 h2 => by
    cases d <;> (unfold atom; rw [if_neg (by rw [hno s _ hf h1]; decide), if_neg (by rw [hno s _ hf h2]; decide)])
  rw [Can] at h
  rcases h with ⟨rfl | rfl, rfl, rfl, _⟩ | ⟨rfl | rfl, rfl, _⟩ | ⟨rfl, _⟩ | ⟨rfl, _⟩ | ⟨rfl | rfl, _⟩
  · have e : ftk (.mk 1 ⟨#[]⟩ ⟨#[]⟩ []) = [kW wTrue] := by rw [ftk]; rfl
    rw [e] at hr ⊢
    have h0 := hr.head
    rw [go _ h0 (by decide) (by decide)]
    unfold leaf
    rw [if_pos (by rw [isT_word h0]; decide)]
    rfl
  · have e : ftk (.mk 2 ⟨#[]⟩ ⟨#[]⟩ []) = [kW wFalse] := by rw [ftk]; rfl
    rw [e] at hr ⊢
    have h0 := hr.head
    rw [go _ h0 (by decide) (by decide)]
    unfold leaf
    rw [if_neg (by rw [isT_word h0]; decide), if_pos (by rw [isT_word h0]; decide)]
    rfl
  · have e : ftk (.mk 3 ⟨#[]⟩ t []) = [kW wWord, kT t.data.toList] := by rw [ftk]; rfl
    rw [e] at hr ⊢
    have h0 := hr.head
    have h1 := hr.tail.head
    rw [go _ h0 (by decide) (by decide)]
    unfold leaf
    rw [if_neg (by rw [isT_word h0]; decide), if_neg (by rw [isT_word h0]; decide), if_pos (by rw [isT_word h0]; decide), show token ts 4 (i + 1) = _ from token_fits h1]
    dsimp only
    rw [h1.2.1]
    show Except.ok (Ft.mk 3 ⟨#[]⟩ (bs t.data.toList) [], _) = _
    rw [bs_toList]
    rfl
  · have e : ftk (.mk 4 ⟨#[]⟩ t []) = [kW wHas, kT t.data.toList] := by rw [ftk]; rfl
    rw [e] at hr ⊢
    have h0 := hr.head
    have h1 := hr.tail.head
    rw [go _ h0 (by decide) (by decide)]
    unfold leaf
    rw [if_neg (by rw [isT_word h0]; decide), if_neg (by rw [isT_word h0]; decide), if_neg (by rw [isT_word h0]; decide), if_pos (by rw [isT_word h0]; decide), show token ts 4 (i + 1) = _ from token_fits h1]
    dsimp only
    rw [h1.2.1]
    show Except.ok (Ft.mk 4 ⟨#[]⟩ (bs t.data.toList) [], _) = _
    rw [bs_toList]
    rfl
  · have e : ftk (.mk 5 n t []) = [kW wField, kN n.data.toList, kS wEq, kT t.data.toList] := by rw [ftk]; rfl
    rw [e] at hr ⊢
    have h0 := hr.head
    have h1 := hr.tail.head
    have h2 := hr.tail.tail.head
    have h3 := hr.tail.tail.tail.head
    rw [go _ h0 (by decide) (by decide)]
    unfold leaf
    rw [if_neg (by rw [isT_word h0]; decide), if_neg (by rw [isT_word h0]; decide), if_neg (by rw [isT_word h0]; decide), if_neg (by rw [isT_word h0]; decide), want_word h0]
    dsimp only
    have ht := token_fits h1
    simp only [kN] at ht
    rw [ht]
    dsimp only
    rw [want_sign h2]
    dsimp only
    have ht := token_fits h3
    simp only [kT] at ht
    rw [ht]
    dsimp only
    rw [h1.2.1, h3.2.1]
    show Except.ok (Ft.mk 5 (bs n.data.toList) (bs t.data.toList) [], _) = _
    rw [bs_toList, bs_toList]
    rfl
  · omega
  · omega
  · omega

theorem rest_none {ts : List Tok} {w : List UInt8} {one : Nat → PR Ft} {f i : Nat} (h : isT (tk ts i) w = false) : rest ts w one f i = .ok ([], i) := by
  cases f
  · rfl
  · rw [rest, h]; rfl
theorem row_one {ts : List Tok} {w : List UInt8} {op : Int} {one : Nat → PR Ft} {i j : Nat} {x : Ft} (h : one i = .ok (x, j)) (hn : isT (tk ts j) w = false) : row ts w op one i = .ok (x, j) := by
  unfold row
  rw [h]
  dsimp only
  rw [rest_none hn]
  rfl

theorem join_two (op : Int) : ∀ {l : List Ft}, 2 ≤ l.length → join op l = .mk op ⟨#[]⟩ ⟨#[]⟩ l
  | [], h => by simp at h
  | [_], h => by simp at h
  | _ :: _ :: _, _ => rfl

/-- A filter's tokens, from the top, are the filter. -/
theorem or_reads {ts : List Tok} {d i : Nat} {k : Ft} (hc : Can k) (HK : ∀ q, (q ∈ k.kids ∨ (q = k ∧ k.op ≤ 6)) → ∀ i, Runs ts i (ktk q) → atom ts d i = .ok (q, i + (ktk q).length)) (hr : Runs ts i (ftk k))
    (hna : isT (tk ts (i + (ftk k).length)) wAnd = false) (hno : isT (tk ts (i + (ftk k).length)) wOr = false) : orF ts (atom ts d) i = .ok (k, i + (ftk k).length) := by
  by_cases h6 : k.op ≤ 6
  · have e : ktk k = ftk k := by unfold ktk; rw [if_neg (by omega)]
    have h := HK k (.inr ⟨rfl, h6⟩) i (by rw [e]; exact hr)
    rw [e] at h
    exact row_one (row_one h hna) hno
  · obtain ⟨op, n, t, kids⟩ := k
    have h6' : ¬ op ≤ 6 := h6
    rw [Can] at hc
    rcases hc with ⟨h, _⟩ | ⟨h, _⟩ | ⟨h, _⟩ | ⟨h, _⟩ | ⟨hop, rfl, rfl, hl, hcs⟩
    · omega
    · omega
    · omega
    · omega
    have hne : kids ≠ [] := fun e => by rw [e] at hl; simp at hl
    rcases hop with rfl | rfl
    · have e : ftk (.mk 7 ⟨#[]⟩ ⟨#[]⟩ kids) = rtk wAnd kids := by rw [ftk]; rfl
      rw [e] at hr hna hno ⊢
      have h := row_reads (op := 7) (one := atom ts d) kids hne i (fun q hq i hi _ => HK q (.inl hq) i hi) (.inl rfl) hr hna hna
      rw [join_two 7 hl] at h
      exact row_one h hno
    · have e : ftk (.mk 8 ⟨#[]⟩ ⟨#[]⟩ kids) = rtk wOr kids := by rw [ftk]; rfl
      rw [e] at hr hna hno ⊢
      have h := row_reads (op := 8) (one := andF ts (atom ts d)) kids hne i (fun q hq i hi hx => row_one (HK q (.inl hq) i hi) (hx.resolve_right (by decide))) (.inr rfl) hr hno hna
      rw [join_two 8 hl] at h
      exact h

/-- A kid's tokens are the kid. -/
theorem kid_reads (ts : List Tok) : ∀ (n : Nat) (k : Ft), k.count ≤ n → Can k → ∀ (d i : Nat), dk k ≤ d → Runs ts i (ktk k) → atom ts d i = .ok (k, i + (ktk k).length)
  | 0, .mk _ _ _ _, hn, _, _, _, _, _ => by rw [Ft.count] at hn; omega
  | n + 1, .mk op nm t kids, hn, hc, d, i, hd, hr => by
    rw [Ft.count] at hn
    have hIH : ∀ q ∈ kids, Can q → ∀ d, dk q ≤ d → ∀ i, Runs ts i (ktk q) → atom ts d i = .ok (q, i + (ktk q).length) := fun q hq hcq d hd i hi => kid_reads ts n q (by have := count_mem hq; omega) hcq d i hd hi
    by_cases h7 : 7 ≤ op
    · have e : ktk (.mk op nm t kids) = kS wOpen :: (ftk (.mk op nm t kids) ++ [kS wShut]) := by unfold ktk; rw [if_pos (show 7 ≤ (Ft.mk op nm t kids).op from h7)]
      have ed : dk (.mk op nm t kids) = 1 + dns kids := by unfold dk; rw [if_pos (show 7 ≤ (Ft.mk op nm t kids).op from h7), dn, if_neg (by omega)]
      rw [e] at hr ⊢
      rw [ed] at hd
      obtain ⟨d', rfl⟩ : ∃ d', d = d' + 1 := ⟨d - 1, by omega⟩
      have hcs : Cans kids := by
        rw [Can] at hc
        rcases hc with ⟨h, _⟩ | ⟨h, _⟩ | ⟨h, _⟩ | ⟨h, _⟩ | ⟨_, _, _, _, h⟩
        · omega
        · omega
        · omega
        · omega
        · exact h
      have h0 := hr.head
      have hsh := (hr.tail.right).head
      have hor := or_reads (d := d') hc (fun q hq i hi => by
        rcases hq with hq | ⟨_, hq⟩
        · have hq : q ∈ kids := hq
          exact hIH q hq (Cans.mem hcs hq) d' (by have := dk_le hq; omega) i hi
        · have : op ≤ 6 := hq
          omega) hr.tail.left (by rw [isT_sign hsh]; decide) (by rw [isT_sign hsh]; decide)
      unfold atom
      rw [if_neg (by rw [isT_sign h0]; decide), if_pos (by rw [isT_sign h0]; decide)]
      dsimp only
      rw [hor]
      dsimp only
      rw [want_sign hsh]
      dsimp only
      simp only [List.length_cons, List.length_append, List.length_nil]
      rw [show i + 1 + (ftk (.mk op nm t kids)).length + 1 = i + ((ftk (.mk op nm t kids)).length + (0 + 1) + 1) by omega]
    · have e : ktk (.mk op nm t kids) = ftk (.mk op nm t kids) := by unfold ktk; rw [if_neg (show ¬ 7 ≤ (Ft.mk op nm t kids).op from h7)]
      rw [e] at hr ⊢
      by_cases h6 : op = 6
      · subst h6
        rw [Can] at hc
        rcases hc with ⟨h, _⟩ | ⟨h, _⟩ | ⟨h, _⟩ | ⟨_, rfl, rfl, hl, hcs⟩ | ⟨h, _⟩
        · omega
        · omega
        · omega
        · obtain ⟨q, rfl⟩ := List.length_eq_one_iff.1 hl
          have ed : dk (.mk 6 ⟨#[]⟩ ⟨#[]⟩ [q]) = 1 + dns [q] := by unfold dk; rw [if_neg (show ¬ 7 ≤ (Ft.mk 6 ⟨#[]⟩ ⟨#[]⟩ [q]).op from h7), dn, if_pos rfl]
          rw [ed] at hd
          obtain ⟨d', rfl⟩ : ∃ d', d = d' + 1 := ⟨d - 1, by omega⟩
          have ef : ftk (.mk 6 ⟨#[]⟩ ⟨#[]⟩ [q]) = kW wNot :: ktk q := by rw [ftk, rtk_cons, stk, List.append_nil]; rfl
          rw [ef] at hr ⊢
          have h0 := hr.head
          have h1 := hIH q (by simp) (Cans.mem hcs (by simp)) d' (by have := dk_le (l := [q]) (k := q) (by simp); omega) (i + 1) hr.tail
          unfold atom
          rw [if_pos (by rw [isT_word h0]; decide)]
          dsimp only
          rw [h1]
          dsimp only
          simp only [List.length_cons]
          rw [show i + 1 + (ktk q).length = i + ((ktk q).length + 1) by omega]
        · omega
      · have hk : kids = [] := by
          rw [Can] at hc
          rcases hc with ⟨_, _, _, h⟩ | ⟨_, _, h⟩ | ⟨_, h⟩ | ⟨h, _⟩ | ⟨h, _⟩
          · exact h
          · exact h
          · exact h
          · omega
          · omega
        subst hk
        exact leaf_reads hc (by omega) hr

/-- A filter's tokens, from the top. -/
theorem filter_reads {ts : List Tok} {d i : Nat} {k : Ft} (hc : Can k) (hd : dn k ≤ d) (hr : Runs ts i (ftk k)) (hna : isT (tk ts (i + (ftk k).length)) wAnd = false) (hno : isT (tk ts (i + (ftk k).length)) wOr = false) :
    orF ts (atom ts d) i = .ok (k, i + (ftk k).length) := by
  refine or_reads hc (fun q hq i hi => ?_) hr hna hno
  rcases hq with hq | ⟨rfl, h6⟩
  · obtain ⟨op, n, t, kids⟩ := k
    have hq : q ∈ kids := hq
    have hcs : Cans kids := by
      rw [Can] at hc
      rcases hc with ⟨_, _, _, h⟩ | ⟨_, _, h⟩ | ⟨_, h⟩ | ⟨_, _, _, _, h⟩ | ⟨_, _, _, _, h⟩
      · subst h; simp at hq
      · subst h; simp at hq
      · subst h; simp at hq
      · exact h
      · exact h
    refine kid_reads ts q.count q (Nat.le_refl _) (Cans.mem hcs hq) d i ?_ hi
    have := dk_le hq
    rw [dn] at hd
    split at hd <;> omega
  · exact kid_reads ts q.count q (Nat.le_refl _) hc d i (by unfold dk; rw [if_neg (by omega)]; exact hd) hi

end Go.Proofs.YtkckgjanfiiieaaGreatDoor.PX

namespace Go.Proofs.YtkckgjanfiiieaaGreatDoor.PX
open Go LX

def kI (it : Int → List UInt8) (n : Int) : K := (3, it n, n)

/-- The matchers' tokens. -/
def mtk : List Mt → List K
  | [] => []
  | m :: r => kW wWhere :: kN m.name.data.toList :: kS (if m.not = true then wNe else wEq) :: kT m.value.data.toList :: mtk r

def tail4 (q : Qy) : List K := if q.page = ⟨#[]⟩ then [] else [kW wPage, kT q.page.data.toList]
def tail3 (it : Int → List UInt8) (q : Qy) : List K := kW wLimit :: kI it q.lim :: tail4 q
def tail2 (it : Int → List UInt8) (q : Qy) : List K := (if q.desc = true then [kW wDesc] else []) ++ tail3 it q
def tail1 (it : Int → List UInt8) (q : Qy) : List K := (if q.fil.op = 1 then [] else kW wFind :: ftk q.fil) ++ tail2 it q
/-- A query's tokens. -/
def qtk (it : Int → List UInt8) (q : Qy) : List K := kW wFrom :: kI it q.src :: kW wTo :: kI it q.til :: (mtk q.mat ++ tail1 it q)

/-- A query that a text can say. -/
structure CanQ (q : Qy) : Prop where
  f0 : -1099511627776 ≤ q.src
  t1 : q.til ≤ 1099511627776
  ft : q.src ≤ q.til
  ms : q.mat.length ≤ 4
  fil : Can q.fil
  dn : PX.dn q.fil ≤ 8
  l0 : 1 ≤ q.lim
  l1 : q.lim ≤ 50

theorem number_fits {ts : List Tok} {i : Nat} {it : Int → List UInt8} {n lo hi : Int} (h : Fits (tk ts i) (kI it n)) (h1 : lo ≤ n) (h2 : n ≤ hi) : number ts lo hi i = .ok (n, i + 1) := by
  unfold number
  rw [show token ts 3 i = _ from token_fits h]
  dsimp only
  have hn : (tk ts i).n = n := h.2.2
  rw [hn, if_neg (by omega)]

theorem wheres_reads {ts : List Tok} : ∀ (l : List Mt) (f n i : Nat), n + l.length ≤ 4 → l.length ≤ f → Runs ts i (mtk l) → isT (tk ts (i + (mtk l).length)) wWhere = false → wheres ts f n i = .ok (l, i + (mtk l).length)
  | [], f, n, i, _, _, _, hn => by
    simp only [mtk, List.length_nil, Nat.add_zero] at hn ⊢
    cases f
    · rfl
    · rw [wheres, hn]; rfl
  | m :: r, 0, _, _, _, hf, _, _ => by simp at hf
  | m :: r, f + 1, n, i, h4, hf, hr, hn => by
    rw [mtk] at hr hn ⊢
    simp only [List.length_cons] at h4 hf hn ⊢
    have h0 := hr.head
    have h1 := hr.tail.head
    have h2 := hr.tail.tail.head
    have h3 := hr.tail.tail.tail.head
    have hrr := hr.tail.tail.tail.tail
    have h6 := wheres_reads r f (n + 1) (i + 1 + 1 + 1 + 1) (by omega) (by omega) hrr (by rw [show i + 1 + 1 + 1 + 1 + (mtk r).length = i + ((mtk r).length + 1 + 1 + 1 + 1) by omega]; exact hn)
    rw [wheres, if_pos (by rw [isT_word h0]; decide), if_neg (by omega), show token ts 1 (i + 1) = _ from token_fits h1]
    dsimp only
    have hv : bs (tk ts (i + 1)).says = m.name := by rw [h1.2.1]; exact bs_toList _
    have hw : bs (tk ts (i + 1 + 1 + 1)).says = m.value := by rw [h3.2.1]; exact bs_toList _
    obtain ⟨nm, b, vl⟩ := m
    dsimp only at hv hw h2
    cases b
    · simp only [Bool.false_eq_true, if_false] at h2
      rw [if_neg (by rw [isT_sign h2]; decide), want_sign h2]
      dsimp only
      rw [show token ts 4 (i + 1 + 1 + 1) = _ from token_fits h3]
      dsimp only
      rw [h6, hv, hw]
      dsimp only
      rw [show i + 1 + 1 + 1 + 1 + (mtk r).length = i + ((mtk r).length + 1 + 1 + 1 + 1) by omega]
    · simp only [if_true] at h2
      rw [if_pos (by rw [isT_sign h2]; decide)]
      dsimp only
      rw [show token ts 4 (i + 1 + 1 + 1) = _ from token_fits h3]
      dsimp only
      rw [h6, hv, hw]
      dsimp only
      rw [show i + 1 + 1 + 1 + 1 + (mtk r).length = i + ((mtk r).length + 1 + 1 + 1 + 1) by omega]

theorem mtk_length : ∀ l : List Mt, (mtk l).length = 4 * l.length
  | [] => rfl
  | m :: r => by rw [mtk]; simp only [List.length_cons, mtk_length r]; omega

theorem isT_end {t : Tok} (h : t.kind = 0) (s : List UInt8) : isT t s = false := by simp [isT, h]

theorem can_true {f : Ft} (h : Can f) (h1 : f.op = 1) : f = .mk 1 ⟨#[]⟩ ⟨#[]⟩ [] := by
  obtain ⟨op, n, t, kids⟩ := f
  have h1 : op = 1 := h1
  subst h1
  rw [Can] at h
  rcases h with ⟨_, rfl, rfl, rfl⟩ | ⟨h, _⟩ | ⟨h, _⟩ | ⟨h, _⟩ | ⟨h, _⟩
  · rfl
  · omega
  · omega
  · omega
  · omega

/-- A query's tokens are the query. -/
theorem query_reads {ts : List Tok} {it : Int → List UInt8} {q : Qy} (hc : CanQ q) (hr : Runs ts 0 (qtk it q)) (hend : (tk ts (qtk it q).length).kind = 0) : query ts = .ok q := by
  obtain ⟨src, til, mat, fil, desc, lim, page⟩ := q
  obtain ⟨f0, t1, ft, ms, hcf, hdn, l0, l1⟩ := hc
  dsimp only at f0 t1 ft ms hcf hdn l0 l1
  unfold qtk at hr hend
  dsimp only at hr hend
  have h0 := hr.head
  have h1 := hr.tail.head
  have h2 := hr.tail.tail.head
  have h3 := hr.tail.tail.tail.head
  have hr4 := hr.tail.tail.tail.tail
  rw [show 0 + 1 + 1 + 1 + 1 = 4 from rfl] at hr4
  have hrm := hr4.left
  have hr5 := hr4.right
  obtain ⟨i5, hi5⟩ : ∃ i5, i5 = 4 + (mtk mat).length := ⟨_, rfl⟩
  rw [← hi5] at hr5
  have hend : (tk ts (i5 + (tail1 it ⟨src, til, mat, fil, desc, lim, page⟩).length)).kind = 0 := by
    rw [← hend, hi5]
    congr 2
    simp only [List.length_cons, List.length_append]
    omega
  -- ahead of find
  obtain ⟨i6, hi6⟩ : ∃ i6, i6 = i5 + (if fil.op = 1 then ([] : List K) else kW wFind :: ftk fil).length := ⟨_, rfl⟩
  have hr6 : Runs ts i6 (tail2 it ⟨src, til, mat, fil, desc, lim, page⟩) := by rw [hi6]; exact hr5.right
  have hend : (tk ts (i6 + (tail2 it ⟨src, til, mat, fil, desc, lim, page⟩).length)).kind = 0 := by
    rw [← hend, hi6]
    congr 2
    unfold tail1
    simp only [List.length_append]
    omega
  obtain ⟨i7, hi7⟩ : ∃ i7, i7 = i6 + (if desc = true then [kW wDesc] else ([] : List K)).length := ⟨_, rfl⟩
  have hr7 : Runs ts i7 (tail3 it ⟨src, til, mat, fil, desc, lim, page⟩) := by rw [hi7]; exact hr6.right
  have hend : (tk ts (i7 + (tail3 it ⟨src, til, mat, fil, desc, lim, page⟩).length)).kind = 0 := by
    rw [← hend, hi7]
    congr 2
    unfold tail2
    simp only [List.length_append]
    omega
  have hlim := hr7.head
  have hnum := hr7.tail.head
  have hr8 := hr7.tail.tail
  have hend : (tk ts (i7 + 1 + 1 + (tail4 ⟨src, til, mat, fil, desc, lim, page⟩).length)).kind = 0 := by
    rw [← hend]
    congr 2
    unfold tail3
    simp only [List.length_cons]
    omega
  have hdesc : (if isT (tk ts i6) wDesc = true then (true, i6 + 1) else (false, i6)) = (desc, i7) := by
    cases desc
    · have e : i7 = i6 := by rw [hi7]; simp
      rw [← e, if_neg (by rw [isT_word hlim]; decide)]
    · have e : i7 = i6 + 1 := by rw [hi7]; simp
      have h := hr6.left
      simp only [if_true] at h
      rw [if_pos (by rw [isT_word h.head]; decide), e]
  have hs6 : ∀ s, s ≠ wDesc → s ≠ wLimit → isT (tk ts i6) s = false := fun s hs1 hs2 => by
    cases desc
    · have e : i7 = i6 := by rw [hi7]; simp
      rw [← e, isT_word hlim]
      exact decide_eq_false fun h => hs2 h.symm
    · have h := hr6.left
      simp only [if_true] at h
      rw [isT_word h.head]
      exact decide_eq_false fun h => hs1 h.symm
  have hfind : (if isT (tk ts i5) wFind = true then orF ts (atom ts 8) (i5 + 1) else .ok (.mk 1 ⟨#[]⟩ ⟨#[]⟩ [], i5)) = .ok (fil, i6) := by
    by_cases h : fil.op = 1
    · have e : i6 = i5 := by rw [hi6, if_pos h]; simp
      rw [← e, if_neg (by rw [hs6 wFind (by decide) (by decide)]; decide), can_true hcf h]
    · have h5 := hr5.left
      dsimp only at h5
      rw [if_neg h] at h5
      have e : i6 = i5 + 1 + (ftk fil).length := by rw [hi6, if_neg h]; simp only [List.length_cons]; omega
      rw [if_pos (by rw [isT_word h5.head]; decide), filter_reads hcf hdn h5.tail (by rw [← e]; exact hs6 _ (by decide) (by decide)) (by rw [← e]; exact hs6 _ (by decide) (by decide)), e]
  have hwh : isT (tk ts i5) wWhere = false := by
    by_cases h : fil.op = 1
    · have e : i6 = i5 := by rw [hi6, if_pos h]; simp
      rw [← e]
      exact hs6 _ (by decide) (by decide)
    · have h5 := hr5.left
      dsimp only at h5
      rw [if_neg h] at h5
      rw [isT_word h5.head]
      decide
  have hmat := wheres_reads mat ts.length 0 4 (by omega) (by have := hrm.1; rw [mtk_length] at this; omega) hrm (by rw [← hi5]; exact hwh)
  rw [← hi5] at hmat
  unfold query
  rw [want_word h0]
  dsimp only
  rw [number_fits h1 (by omega) (by omega)]
  dsimp only
  rw [want_word h2]
  dsimp only
  rw [number_fits h3 (by omega) (by omega)]
  dsimp only
  rw [if_neg (by omega), show 0 + 1 + 1 + 1 + 1 = 4 from rfl, hmat]
  dsimp only
  rw [hfind]
  dsimp only
  rw [hdesc]
  dsimp only
  rw [want_word hlim]
  dsimp only
  rw [number_fits hnum (by omega) (by omega)]
  dsimp only
  by_cases h : page = ⟨#[]⟩
  · have e : tail4 ⟨src, til, mat, fil, desc, lim, page⟩ = [] := by unfold tail4; rw [if_pos h]
    rw [e] at hend
    simp only [List.length_nil, Nat.add_zero] at hend
    rw [if_neg (by rw [isT_end hend]; decide)]
    dsimp only
    rw [if_pos hend, h]
  · have e : tail4 ⟨src, til, mat, fil, desc, lim, page⟩ = [kW wPage, kT page.data.toList] := by unfold tail4; rw [if_neg h]
    rw [e] at hend hr8
    have hend : (tk ts (i7 + 1 + 1 + 1 + 1)).kind = 0 := hend
    have hp := hr8.tail.head
    rw [if_pos (by rw [isT_word hr8.head]; decide), show token ts 4 (i7 + 1 + 1 + 1) = _ from token_fits hp]
    dsimp only
    rw [if_pos hend, show bs (tk ts (i7 + 1 + 1 + 1)).says = page by rw [hp.2.1]; exact bs_toList _]

end Go.Proofs.YtkckgjanfiiieaaGreatDoor.PX

namespace Go.Proofs.YtkckgjanfiiieaaGreatDoor.PX
open Go LX MW

/-- A token that can be spelled. -/
def Good (k : K) : Prop :=
  (k.1 = 1 ∧ name k.2.1 = true ∧ isWord k.2.1 = false ∧ k.2.2 = 0) ∨ (k.1 = 2 ∧ isWord k.2.1 = true ∧ k.2.2 = 0) ∨
  (k.1 = 3 ∧ (∃ c r, k.2.1 = c :: r ∧ (c = 45 ∨ ch c = true) ∧ r.all ch = true) ∧ kindOf k.2.1 = some (3, k.2.2)) ∨
  (k.1 = 4 ∧ isText k.2.1 = true ∧ k.2.2 = 0) ∨ (k.1 = 5 ∧ (k.2.1 = [61] ∨ k.2.1 = [40] ∨ k.2.1 = [41] ∨ k.2.1 = [33, 61]) ∧ k.2.2 = 0)

/-- Its letters. -/
def lts (k : K) : List UInt8 := if k.1 = 4 then quote k.2.1 else k.2.1

theorem run_more (a q : List UInt8) (h : a.all ch = true) (hq : run q = []) : run (a ++ q) = a := by
  unfold run at hq ⊢
  rw [List.takeWhile_append_of_pos (by simpa using h), hq, List.append_nil]

theorem ch_not {c d : UInt8} (h : ch c = true) (hd : ch d = false) : c ≠ d := fun e => by rw [e, hd] at h; cases h

theorem tok_word {c : UInt8} {r q : List UInt8} {kd : Nat} {n : Int} (hc : c = 45 ∨ ch c = true) (hr : r.all ch = true) (hq : run q = []) (hk : kindOf (c :: r) = some (kd, n)) : c ≠ 32 ∧ tok c (r ++ q) = some (kd, c :: r, n, (c :: r).length) := by
  have hne : ∀ d : UInt8, d ≠ 45 → ch d = false → c ≠ d := fun d h1 h2 => by
    rcases hc with rfl | hc
    · exact fun e => h1 e.symm
    · exact ch_not hc h2
  refine ⟨hne _ (by decide) (by decide), ?_⟩
  unfold tok
  rw [if_neg (by rintro (e | e | e) <;> exact hne _ (by decide) (by decide) e), if_neg (fun e => hne _ (by decide) (by decide) e.1), if_neg (hne _ (by decide) (by decide)), if_pos hc, run_more r q hr hq, hk]
  rfl

theorem tok_good {k : K} (hg : Good k) {q : List UInt8} (hq : k.1 ≤ 3 → run q = []) : ∃ c r, lts k = c :: r ∧ c ≠ 32 ∧ tok c (r ++ q) = some (k.1, k.2.1, k.2.2, (lts k).length) := by
  obtain ⟨kd, s, n⟩ := k
  unfold Good at hg
  dsimp only at hg hq
  unfold lts
  dsimp only
  rcases hg with ⟨rfl, hn, hw, rfl⟩ | ⟨rfl, hw, rfl⟩ | ⟨rfl, ⟨c, r, rfl, hc, hr⟩, hk⟩ | ⟨rfl, ht, rfl⟩ | ⟨rfl, hs, rfl⟩
  · rw [if_neg (by decide)]
    obtain ⟨c, r, rfl, _, hall, _⟩ := name_parts hn
    rw [List.all_cons, Bool.and_eq_true] at hall
    have hk : kindOf (c :: r) = some (1, 0) := by unfold kindOf; rw [if_neg (by rw [hw]; decide), if_pos hn]
    have h := tok_word (.inr hall.1) hall.2 (hq (by decide)) hk
    exact ⟨c, r, rfl, h.1, h.2⟩
  · rw [if_neg (by decide)]
    obtain ⟨c, r, rfl, _, hall, _⟩ := name_parts (word_name hw)
    rw [List.all_cons, Bool.and_eq_true] at hall
    have hk : kindOf (c :: r) = some (2, 0) := by unfold kindOf; rw [if_pos hw]
    have h := tok_word (.inr hall.1) hall.2 (hq (by decide)) hk
    exact ⟨c, r, rfl, h.1, h.2⟩
  · rw [if_neg (by decide)]
    have h := tok_word hc hr (hq (by decide)) hk
    exact ⟨c, r, rfl, h.1, h.2⟩
  · rw [if_pos rfl, quote_of ht]
    have h10 : s.contains 10 = false := by
      unfold isText at ht
      simp only [Bool.and_eq_true, Bool.not_eq_true'] at ht
      exact ht.1
    refine ⟨34, esc s ++ [34], rfl, by decide, ?_⟩
    unfold tok
    rw [if_neg (by decide), if_neg (fun h => absurd h.1 (by decide)), if_pos rfl, List.append_assoc, show ([34] : List UInt8) ++ q = 34 :: q from rfl, text_quote q s h10]
    simp only [Option.map_some, List.length_cons, List.length_append, List.length_nil]
  · rw [if_neg (by decide)]
    rcases hs with rfl | rfl | rfl | rfl
    · exact ⟨61, [], rfl, by decide, by unfold tok; rw [if_pos (by decide)]; rfl⟩
    · exact ⟨40, [], rfl, by decide, by unfold tok; rw [if_pos (by decide)]; rfl⟩
    · exact ⟨41, [], rfl, by decide, by unfold tok; rw [if_pos (by decide)]; rfl⟩
    · exact ⟨33, [61], rfl, by decide, by unfold tok; rw [if_neg (by decide), if_pos ⟨rfl, rfl⟩]; rfl⟩

/-- Tokens, with so many blanks ahead of each. -/
def spell : List (Nat × K) → List UInt8
  | [] => []
  | (b, k) :: r => List.replicate b 32 ++ (lts k ++ spell r)
def Spaced : List (Nat × K) → Prop
  | [] => True
  | (_, k) :: r => Good k ∧ (k.1 ≤ 3 → run (spell r) = []) ∧ Spaced r

theorem toks_spell : ∀ (l : List (Nat × K)) (i : Nat), Spaced l → ∃ ts, toks i (spell l) = .ok ts ∧ ts.map Tok.bare = l.map (·.2)
  | [], i, _ => ⟨[], toks_nil i, rfl⟩
  | (b, k) :: r, i, h => by
    rw [Spaced] at h
    obtain ⟨hg, hq, hr⟩ := h
    obtain ⟨c, s, hl, hc, ht⟩ := tok_good hg hq
    obtain ⟨ts, h1, h2⟩ := toks_spell r (i + b + (lts k).length) hr
    rw [spell, toks_blanks]
    have e : lts k ++ spell r = c :: (s ++ spell r) := by rw [hl]; rfl
    rw [e, toks_some hc ht, ← e, List.drop_append_of_le_length (Nat.le_refl _), List.drop_length, List.nil_append, h1]
    exact ⟨_, rfl, by simp only [List.map_cons, h2]; rfl⟩

end Go.Proofs.YtkckgjanfiiieaaGreatDoor.PX

namespace Go.Proofs.YtkckgjanfiiieaaGreatDoor.PX
open Go LX MW

/-- They can be spelled, q behind them. -/
def Sp : List (Nat × K) → List UInt8 → Prop
  | [], _ => True
  | (_, k) :: r, q => Good k ∧ (k.1 ≤ 3 → run (spell r ++ q) = []) ∧ Sp r q

theorem spell_append : ∀ a b : List (Nat × K), spell (a ++ b) = spell a ++ spell b
  | [], _ => rfl
  | (n, k) :: r, b => by rw [List.cons_append, spell, spell, spell_append r b]; simp only [List.append_assoc]
theorem sp_append : ∀ {a b : List (Nat × K)} {q : List UInt8}, Sp a (spell b ++ q) → Sp b q → Sp (a ++ b) q
  | [], _, _, _, h => h
  | (n, k) :: r, b, q, h, h2 => by
    rw [Sp] at h
    rw [List.cons_append, Sp]
    refine ⟨h.1, fun hk => ?_, sp_append h.2.2 h2⟩
    have := h.2.1 hk
    rw [spell_append, List.append_assoc]
    exact this
theorem sp_spaced : ∀ {l : List (Nat × K)}, Sp l [] → Spaced l
  | [], _ => by rw [Spaced]; trivial
  | (n, k) :: r, h => by
    rw [Sp, List.append_nil] at h
    rw [Spaced]
    exact ⟨h.1, h.2.1, sp_spaced h.2.2⟩

theorem run_blank (q : List UInt8) : run (32 :: q) = [] := by unfold run; rw [List.takeWhile_cons]; rfl
theorem run_one (b : Nat) (k : K) (r : List (Nat × K)) (q : List UInt8) : run (spell ((b + 1, k) :: r) ++ q) = [] := by
  rw [spell, List.replicate_succ]
  exact run_blank _
theorem run_of (c : UInt8) (q : List UInt8) (h : ch c = false) : run (c :: q) = [] := by unfold run; rw [List.takeWhile_cons, h]; rfl

mutual
/-- A filter, spelled. -/
def fsp : Nat → Ft → List (Nat × K)
  | b, .mk op n t kids =>
    if op = 1 then [(b, kW wTrue)] else if op = 2 then [(b, kW wFalse)]
    else if op = 3 then [(b, kW wWord), (1, kT t.data.toList)] else if op = 4 then [(b, kW wHas), (1, kT t.data.toList)]
    else if op = 5 then [(b, kW wField), (1, kN n.data.toList), (0, kS wEq), (0, kT t.data.toList)]
    else if op = 6 then (b, kW wNot) :: rsp 1 wAnd kids
    else if op = 7 then rsp b wAnd kids else rsp b wOr kids
/-- A row, spelled. -/
def rsp : Nat → List UInt8 → List Ft → List (Nat × K)
  | _, _, [] => []
  | b, w, k :: r => (if 7 ≤ k.op then (b, kS wOpen) :: (fsp 0 k ++ [(0, kS wShut)]) else fsp b k) ++ ssp w r
/-- The rest of a row, spelled. -/
def ssp : List UInt8 → List Ft → List (Nat × K)
  | _, [] => []
  | w, k :: r => (1, kW w) :: ((if 7 ≤ k.op then (1, kS wOpen) :: (fsp 0 k ++ [(0, kS wShut)]) else fsp 1 k) ++ ssp w r)
end
/-- A kid, spelled. -/
def ksp (b : Nat) (k : Ft) : List (Nat × K) := if 7 ≤ k.op then (b, kS wOpen) :: (fsp 0 k ++ [(0, kS wShut)]) else fsp b k
theorem rsp_cons (b : Nat) (w : List UInt8) (k : Ft) (r : List Ft) : rsp b w (k :: r) = ksp b k ++ ssp w r := by rw [rsp]; rfl
theorem ssp_cons (w : List UInt8) (k : Ft) (r : List Ft) : ssp w (k :: r) = (1, kW w) :: (ksp 1 k ++ ssp w r) := by rw [ssp]; rfl

mutual
theorem fsp_map : ∀ (f : Ft) (b : Nat), (fsp b f).map (·.2) = ftk f
  | .mk op n t kids, b => by
    rw [fsp, ftk]
    by_cases h1 : op = 1
    · rw [if_pos h1, if_pos h1]; rfl
    by_cases h2 : op = 2
    · rw [if_neg h1, if_neg h1, if_pos h2, if_pos h2]; rfl
    by_cases h3 : op = 3
    · rw [if_neg h1, if_neg h1, if_neg h2, if_neg h2, if_pos h3, if_pos h3]; rfl
    by_cases h4 : op = 4
    · rw [if_neg h1, if_neg h1, if_neg h2, if_neg h2, if_neg h3, if_neg h3, if_pos h4, if_pos h4]; rfl
    by_cases h5 : op = 5
    · rw [if_neg h1, if_neg h1, if_neg h2, if_neg h2, if_neg h3, if_neg h3, if_neg h4, if_neg h4, if_pos h5, if_pos h5]; rfl
    by_cases h6 : op = 6
    · rw [if_neg h1, if_neg h1, if_neg h2, if_neg h2, if_neg h3, if_neg h3, if_neg h4, if_neg h4, if_neg h5, if_neg h5, if_pos h6, if_pos h6, List.map_cons, rsp_map kids 1 wAnd]
    by_cases h7 : op = 7
    · rw [if_neg h1, if_neg h1, if_neg h2, if_neg h2, if_neg h3, if_neg h3, if_neg h4, if_neg h4, if_neg h5, if_neg h5, if_neg h6, if_neg h6, if_pos h7, if_pos h7, rsp_map kids b wAnd]
    · rw [if_neg h1, if_neg h1, if_neg h2, if_neg h2, if_neg h3, if_neg h3, if_neg h4, if_neg h4, if_neg h5, if_neg h5, if_neg h6, if_neg h6, if_neg h7, if_neg h7, rsp_map kids b wOr]
theorem rsp_map : ∀ (l : List Ft) (b : Nat) (w : List UInt8), (rsp b w l).map (·.2) = rtk w l
  | [], b, w => by rw [rsp, rtk]; rfl
  | k :: r, b, w => by
    rw [rsp, rtk, List.map_append, ssp_map r w]
    congr 1
    split
    · rw [List.map_cons, List.map_append, fsp_map k 0]; rfl
    · exact fsp_map k b
theorem ssp_map : ∀ (l : List Ft) (w : List UInt8), (ssp w l).map (·.2) = stk w l
  | [], w => by rw [ssp, stk]; rfl
  | k :: r, w => by
    rw [ssp, stk, List.map_cons, List.map_append, ssp_map r w]
    congr 2
    split
    · rw [List.map_cons, List.map_append, fsp_map k 0]; rfl
    · exact fsp_map k 1
end

mutual
/-- Its texts are texts, its names names. -/
def TOk : Ft → Prop
  | .mk op n t kids => (op = 3 ∨ op = 4 ∨ op = 5 → isText t.data.toList = true) ∧ (op = 5 → name n.data.toList = true ∧ isWord n.data.toList = false) ∧ TOks kids
def TOks : List Ft → Prop
  | [] => True
  | k :: r => TOk k ∧ TOks r
end
theorem TOks.mem : ∀ {l : List Ft} {k : Ft}, TOks l → k ∈ l → TOk k
  | q :: r, k, h, hk => by
    rw [TOks] at h
    rcases List.mem_cons.1 hk with rfl | hk
    · exact h.1
    · exact TOks.mem h.2 hk

theorem good_w {w : List UInt8} (h : isWord w = true) : Good (kW w) := .inr (.inl ⟨rfl, h, rfl⟩)
theorem good_t {s : List UInt8} (h : isText s = true) : Good (kT s) := .inr (.inr (.inr (.inl ⟨rfl, h, rfl⟩)))
theorem good_n {s : List UInt8} (h : name s = true) (hw : isWord s = false) : Good (kN s) := .inl ⟨rfl, h, hw, rfl⟩
theorem good_s {s : List UInt8} (h : s = [61] ∨ s = [40] ∨ s = [41] ∨ s = [33, 61]) : Good (kS s) := .inr (.inr (.inr (.inr ⟨rfl, h, rfl⟩)))

theorem ksp_sp {k : Ft} {b : Nat} {q : List UInt8} (hf : ∀ b q, run q = [] → Sp (fsp b k) q) (hq : run q = []) : Sp (ksp b k) q := by
  unfold ksp
  split
  · rw [Sp]
    refine ⟨good_s (.inr (.inl rfl)), fun h => absurd h (by decide), sp_append (hf 0 _ ?_) ?_⟩
    · exact run_of 41 _ (by decide)
    · rw [Sp, Sp]
      exact ⟨good_s (.inr (.inr (.inl rfl))), fun h => absurd h (by decide), trivial⟩
  · exact hf b q hq

theorem fsp_head : ∀ (n : Nat) (f : Ft), f.count ≤ n → Can f → ∀ b, ∃ x r, fsp b f = (b, x) :: r
  | 0, .mk _ _ _ _, hn, _, _ => by rw [Ft.count] at hn; omega
  | n + 1, .mk op nm t kids, hn, hc, b => by
    rw [Ft.count] at hn
    rw [Can] at hc
    rw [fsp]
    have row : ∀ w, 2 ≤ kids.length → Cans kids → ∃ x r, rsp b w kids = (b, x) :: r := fun w hl hcs => by
      cases kids with
      | nil => simp at hl
      | cons k r =>
        rw [rsp_cons]
        unfold ksp
        split
        · exact ⟨_, _, rfl⟩
        · rw [Ft.counts] at hn
          obtain ⟨x, y, e⟩ := fsp_head n k (by omega) (Cans.mem hcs (by simp)) b
          rw [e]
          exact ⟨_, _, rfl⟩
    rcases hc with ⟨rfl | rfl, _⟩ | ⟨rfl | rfl, _⟩ | ⟨rfl, _⟩ | ⟨rfl, _⟩ | ⟨rfl | rfl, _, _, hl, hcs⟩
    · exact ⟨_, _, rfl⟩
    · exact ⟨_, _, rfl⟩
    · exact ⟨_, _, rfl⟩
    · exact ⟨_, _, rfl⟩
    · exact ⟨_, _, rfl⟩
    · exact ⟨_, _, rfl⟩
    · exact row wAnd hl hcs
    · exact row wOr hl hcs

theorem ksp_blank {k : Ft} (hc : Can k) (q : List UInt8) : run (spell (ksp 1 k) ++ q) = [] := by
  unfold ksp
  split
  · exact run_one 0 _ _ q
  · obtain ⟨x, r, e⟩ := fsp_head k.count k (Nat.le_refl _) hc 1
    rw [e]
    exact run_one 0 _ _ q

theorem ssp_sp {w : List UInt8} (hw : isWord w = true) {q : List UInt8} (hq : run q = []) : ∀ l : List Ft, (∀ k ∈ l, Can k ∧ ∀ b q, run q = [] → Sp (fsp b k) q) → Sp (ssp w l) q ∧ run (spell (ssp w l) ++ q) = []
  | [], _ => by rw [ssp, Sp, spell]; exact ⟨trivial, hq⟩
  | k :: r, h => by
    have h1 := ssp_sp hw hq r fun x hx => h x (by simp [hx])
    rw [ssp_cons]
    refine ⟨?_, run_one 0 _ _ q⟩
    rw [Sp]
    refine ⟨good_w hw, fun _ => ?_, sp_append (ksp_sp (h k (by simp)).2 h1.2) h1.1⟩
    rw [spell_append, List.append_assoc]
    exact ksp_blank (h k (by simp)).1 _

theorem fsp_sp : ∀ (n : Nat) (f : Ft), f.count ≤ n → Can f → TOk f → ∀ (b : Nat) (q : List UInt8), run q = [] → Sp (fsp b f) q
  | 0, .mk _ _ _ _, hn, _, _, _, _, _ => by rw [Ft.count] at hn; omega
  | n + 1, .mk op nm t kids, hn, hc, ht, b, q, hq => by
    rw [Ft.count] at hn
    rw [Can] at hc
    rw [TOk] at ht
    obtain ⟨ht1, ht2, ht3⟩ := ht
    rw [fsp]
    have hall : Cans kids → ∀ k ∈ kids, Can k ∧ ∀ b q, run q = [] → Sp (fsp b k) q := fun hcs k hk => ⟨Cans.mem hcs hk, fun b q hq => fsp_sp n k (by have := count_mem hk; omega) (Cans.mem hcs hk) (TOks.mem ht3 hk) b q hq⟩
    have row : ∀ w, isWord w = true → ∀ b, Cans kids → Sp (rsp b w kids) q := fun w hw b hcs => by
      have ha := hall hcs
      cases kids with
      | nil => rw [rsp, Sp]; trivial
      | cons k r =>
        rw [rsp_cons]
        have h1 := ssp_sp hw hq r fun x hx => ha x (by simp [hx])
        exact sp_append (ksp_sp (ha k (by simp)).2 h1.2) h1.1
    rcases hc with ⟨rfl | rfl, _⟩ | ⟨rfl | rfl, _⟩ | ⟨rfl, _⟩ | ⟨rfl, _, _, hl, hcs⟩ | ⟨rfl | rfl, _, _, hl, hcs⟩
    · show Sp [(b, kW wTrue)] q
      rw [Sp, Sp]
      exact ⟨good_w (by decide), fun _ => hq, trivial⟩
    · show Sp [(b, kW wFalse)] q
      rw [Sp, Sp]
      exact ⟨good_w (by decide), fun _ => hq, trivial⟩
    · show Sp [(b, kW wWord), (1, kT t.data.toList)] q
      rw [Sp, Sp, Sp]
      exact ⟨good_w (by decide), fun _ => run_one 0 _ _ q, good_t (ht1 (by decide)), fun h => absurd h (by show ¬ 4 ≤ 3; decide), trivial⟩
    · show Sp [(b, kW wHas), (1, kT t.data.toList)] q
      rw [Sp, Sp, Sp]
      exact ⟨good_w (by decide), fun _ => run_one 0 _ _ q, good_t (ht1 (by decide)), fun h => absurd h (by show ¬ 4 ≤ 3; decide), trivial⟩
    · show Sp [(b, kW wField), (1, kN nm.data.toList), (0, kS wEq), (0, kT t.data.toList)] q
      rw [Sp, Sp, Sp, Sp, Sp]
      exact ⟨good_w (by decide), fun _ => run_one 0 _ _ q, good_n (ht2 rfl).1 (ht2 rfl).2, fun _ => run_of 61 _ (by decide), good_s (.inl rfl), fun h => absurd h (by show ¬ 5 ≤ 3; decide), good_t (ht1 (by decide)), fun h => absurd h (by show ¬ 4 ≤ 3; decide), trivial⟩
    · show Sp ((b, kW wNot) :: rsp 1 wAnd kids) q
      rw [Sp]
      refine ⟨good_w (by decide), fun _ => ?_, row wAnd (by decide) 1 hcs⟩
      obtain ⟨k, rfl⟩ := List.length_eq_one_iff.1 hl
      rw [rsp_cons, ssp, List.append_nil]
      exact ksp_blank (Cans.mem hcs (by simp)) q
    · exact row wAnd (by decide) b hcs
    · exact row wOr (by decide) b hcs

end Go.Proofs.YtkckgjanfiiieaaGreatDoor.PX

namespace Go.Proofs.YtkckgjanfiiieaaGreatDoor.PX
open Go LX MW

/-- The matchers, spelled. -/
def msp : List Mt → List (Nat × K)
  | [] => []
  | m :: r => (1, kW wWhere) :: (1, kN m.name.data.toList) :: (0, kS (if m.not = true then wNe else wEq)) :: (0, kT m.value.data.toList) :: msp r
def psp (q : Qy) : List (Nat × K) := if q.page = ⟨#[]⟩ then [] else [(1, kW wPage), (1, kT q.page.data.toList)]
def lsp (it : Int → List UInt8) (q : Qy) : List (Nat × K) := (1, kW wLimit) :: (1, kI it q.lim) :: psp q
def dsp (it : Int → List UInt8) (q : Qy) : List (Nat × K) := (if q.desc = true then [(1, kW wDesc)] else []) ++ lsp it q
def nsp (it : Int → List UInt8) (q : Qy) : List (Nat × K) := (if q.fil.op = 1 then [] else (1, kW wFind) :: fsp 1 q.fil) ++ dsp it q
/-- A query, spelled. -/
def qsp (it : Int → List UInt8) (q : Qy) : List (Nat × K) := (0, kW wFrom) :: (1, kI it q.src) :: (1, kW wTo) :: (1, kI it q.til) :: (msp q.mat ++ nsp it q)

theorem msp_map : ∀ l : List Mt, (msp l).map (·.2) = mtk l
  | [] => rfl
  | m :: r => by rw [msp, mtk]; simp only [List.map_cons, msp_map r]
theorem qsp_map (it : Int → List UInt8) (q : Qy) : (qsp it q).map (·.2) = qtk it q := by
  unfold qsp qtk nsp tail1 dsp tail2 lsp tail3 psp tail4
  simp only [List.map_cons, List.map_append, msp_map]
  by_cases h1 : q.fil.op = 1
  · rw [if_pos h1, if_pos h1]
    by_cases h2 : q.desc = true
    · rw [if_pos h2, if_pos h2]
      by_cases h3 : q.page = ⟨#[]⟩
      · rw [if_pos h3, if_pos h3]; rfl
      · rw [if_neg h3, if_neg h3]; rfl
    · rw [if_neg h2, if_neg h2]
      by_cases h3 : q.page = ⟨#[]⟩
      · rw [if_pos h3, if_pos h3]; rfl
      · rw [if_neg h3, if_neg h3]; rfl
  · rw [if_neg h1, if_neg h1, List.map_cons, fsp_map]
    by_cases h2 : q.desc = true
    · rw [if_pos h2, if_pos h2]
      by_cases h3 : q.page = ⟨#[]⟩
      · rw [if_pos h3, if_pos h3]; rfl
      · rw [if_neg h3, if_neg h3]; rfl
    · rw [if_neg h2, if_neg h2]
      by_cases h3 : q.page = ⟨#[]⟩
      · rw [if_pos h3, if_pos h3]; rfl
      · rw [if_neg h3, if_neg h3]; rfl

/-- Its texts are texts, its names names. -/
structure TOkQ (q : Qy) : Prop where
  ms : ∀ m ∈ q.mat, name m.name.data.toList = true ∧ isWord m.name.data.toList = false ∧ isText m.value.data.toList = true
  fil : TOk q.fil
  page : isText q.page.data.toList = true

/-- A number's text. -/
def Num (it : Int → List UInt8) (n : Int) : Prop := (∃ c r, it n = c :: r ∧ (c = 45 ∨ ch c = true) ∧ r.all ch = true) ∧ kindOf (it n) = some (3, n)
theorem good_i {it : Int → List UInt8} {n : Int} (h : Num it n) : Good (kI it n) := .inr (.inr (.inl ⟨rfl, h.1, h.2⟩))

theorem msp_sp : ∀ {l : List Mt} {q : List UInt8}, (∀ m ∈ l, name m.name.data.toList = true ∧ isWord m.name.data.toList = false ∧ isText m.value.data.toList = true) → Sp (msp l) q
  | [], q, _ => by rw [msp, Sp]; trivial
  | m :: r, q, h => by
    obtain ⟨h1, h2, h3⟩ := h m (by simp)
    rw [msp, Sp, Sp, Sp, Sp]
    refine ⟨good_w (by decide), fun _ => run_one 0 _ _ q, good_n h1 h2, fun _ => ?_, good_s ?_, fun h => absurd h (by show ¬ 5 ≤ 3; decide), good_t h3, fun h => absurd h (by show ¬ 4 ≤ 3; decide), msp_sp fun x hx => h x (by simp [hx])⟩
    · rcases hb : m.not with _ | _
      · exact run_of 61 _ (by decide)
      · exact run_of 33 _ (by decide)
    · rcases m.not with _ | _
      · exact .inl rfl
      · exact .inr (.inr (.inr rfl))

theorem psp_run (q : Qy) : run (spell (psp q) ++ []) = [] := by
  unfold psp
  split
  · rfl
  · exact run_one 0 _ _ []

theorem qsp_sp {it : Int → List UInt8} {q : Qy} (hc : CanQ q) (ht : TOkQ q) (h1 : Num it q.src) (h2 : Num it q.til) (h3 : Num it q.lim) : Sp (qsp it q) [] := by
  have hp : Sp (psp q) [] := by
    unfold psp
    split
    · rw [Sp]; trivial
    · rw [Sp, Sp, Sp]
      exact ⟨good_w (by decide), fun _ => run_one 0 _ _ [], good_t ht.page, fun h => absurd h (by show ¬ 4 ≤ 3; decide), trivial⟩
  have hl : Sp (lsp it q) [] := by
    unfold lsp
    rw [Sp, Sp]
    exact ⟨good_w (by decide), fun _ => run_one 0 _ _ [], good_i h3, fun _ => psp_run q, hp⟩
  have hd : Sp (dsp it q) [] := by
    unfold dsp
    refine sp_append ?_ hl
    split
    · rw [Sp, Sp]
      exact ⟨good_w (by decide), fun _ => run_one 0 _ _ _, trivial⟩
    · rw [Sp]; trivial
  have hdr : run (spell (dsp it q) ++ []) = [] := by
    unfold dsp
    split
    · exact run_one 0 _ _ []
    · exact run_one 0 _ _ []
  have hn : Sp (nsp it q) [] := by
    unfold nsp
    refine sp_append ?_ hd
    split
    · rw [Sp]; trivial
    · rw [Sp]
      refine ⟨good_w (by decide), fun _ => ?_, fsp_sp _ q.fil (Nat.le_refl _) hc.fil ht.fil 1 _ hdr⟩
      obtain ⟨x, r, e⟩ := fsp_head q.fil.count q.fil (Nat.le_refl _) hc.fil 1
      rw [e]
      exact run_one 0 _ _ _
  have hnr : run (spell (nsp it q) ++ []) = [] := by
    unfold nsp
    split
    · exact hdr
    · exact run_one 0 _ _ []
  unfold qsp
  rw [Sp, Sp, Sp, Sp]
  refine ⟨good_w (by decide), fun _ => run_one 0 _ _ [], good_i h1, fun _ => run_one 0 _ _ [], good_w (by decide), fun _ => run_one 0 _ _ [], good_i h2, fun _ => ?_, sp_append (msp_sp ht.ms) hn⟩
  cases hm : q.mat with
  | nil => exact hnr
  | cons m r => exact run_one 0 _ _ _

end Go.Proofs.YtkckgjanfiiieaaGreatDoor.PX

namespace Go.Proofs.YtkckgjanfiiieaaGreatDoor.PX
open Go

theorem dn_le_dk (f : Ft) : dn f ≤ dk f := by unfold dk; split <;> omega

theorem cans_of : ∀ {l : List Ft}, (∀ x ∈ l, Can x) → Cans l
  | [], _ => by rw [Cans]; trivial
  | x :: r, h => by rw [Cans]; exact ⟨h x (by simp), cans_of fun y hy => h y (by simp [hy])⟩
theorem dns_of {m : Nat} : ∀ {l : List Ft}, (∀ x ∈ l, dk x ≤ m) → dns l ≤ m
  | [], _ => by rw [dns]; omega
  | x :: r, h => by
    rw [dns]
    have h1 : dk x ≤ m := h x (by simp)
    unfold dk at h1
    exact Nat.max_le.2 ⟨h1, dns_of fun y hy => h y (by simp [hy])⟩

theorem dk_leaf {op : Int} {n t : ByteArray} (h : op ≤ 5) : dk (.mk op n t []) = 0 := by
  unfold dk
  rw [if_neg (by show ¬ 7 ≤ op; omega), dn, if_neg (by omega), dns]

theorem leaf_can {l : List Int} {d p : Nat} (h : (Ft.next l (Ft.nd d) p).1 ≤ 4) : Can (Ft.make l d p).1 ∧ dk (Ft.make l d p).1 = 0 := by
  have ho := Ft.next_lt (l := l) (n := 2) (p := (Ft.next l (Ft.nd d) p).2) (by decide)
  rcases (by omega : (Ft.next l (Ft.nd d) p).1 ≤ 1 ∨ (Ft.next l (Ft.nd d) p).1 = 2 ∨ (Ft.next l (Ft.nd d) p).1 = 3 ∨ (Ft.next l (Ft.nd d) p).1 = 4) with h | h | h | h
  · rw [Ft.make_word h]
    exact ⟨by rw [Can]; exact .inr (.inl ⟨.inl rfl, rfl, rfl⟩), dk_leaf (by omega)⟩
  · rw [Ft.make_has h]
    exact ⟨by rw [Can]; exact .inr (.inl ⟨.inr rfl, rfl, rfl⟩), dk_leaf (by omega)⟩
  · rw [Ft.make_field h]
    exact ⟨by rw [Can]; exact .inr (.inr (.inl ⟨rfl, rfl⟩)), dk_leaf (by omega)⟩
  · rw [Ft.make_bool h]
    refine ⟨by rw [Can]; exact .inl ⟨by omega, rfl, rfl, rfl⟩, dk_leaf (by omega)⟩

theorem make_can (l : List Int) : ∀ (d p : Nat), Can (Ft.make l d p).1 ∧ dk (Ft.make l d p).1 ≤ 2 * d
  | 0, p => by
    have h := Ft.next_lt (l := l) (n := 5) (p := p) (by decide)
    have h1 := leaf_can (l := l) (d := 0) (p := p) (by show (Ft.next l 5 p).1 ≤ 4; omega)
    exact ⟨h1.1, by omega⟩
  | d + 1, p => by
    by_cases h4 : (Ft.next l 8 p).1 ≤ 4
    · have h1 := leaf_can (l := l) (d := d + 1) (p := p) h4
      exact ⟨h1.1, by omega⟩
    by_cases h5 : (Ft.next l 8 p).1 = 5
    · rw [Ft.make_not h5]
      have h1 := make_can l d (Ft.next l 8 p).2
      dsimp only
      refine ⟨?_, ?_⟩
      · rw [Can]
        refine .inr (.inr (.inr (.inl ⟨rfl, rfl, rfl, rfl, cans_of fun x hx => ?_⟩)))
        rw [List.mem_singleton] at hx
        subst hx
        exact h1.1
      · unfold dk
        rw [if_neg (by show ¬ (7 : Int) ≤ 6; decide), dn, if_pos rfl]
        have := dns_of (m := 2 * d) (l := [(Ft.make l d (Ft.next l 8 p).2).1]) (fun x hx => by
          rw [List.mem_singleton] at hx
          subst hx
          exact h1.2)
        omega
    · have h6 : 6 ≤ (Ft.next l 8 p).1 := by omega
      have ho := Ft.next_lt (l := l) (n := 2) (p := (Ft.next l 8 p).2) (by decide)
      rw [Ft.make_and h6]
      dsimp only
      refine ⟨?_, ?_⟩
      · rw [Can]
        refine .inr (.inr (.inr (.inr ⟨?_, rfl, rfl, ?_, cans_of (Ft.several_all (P := Can) (fun p => (make_can l d p).1) _ _)⟩)))
        · omega
        · rw [Ft.several_length]; omega
      · unfold dk
        rw [if_pos (by show (7 : Int) ≤ 7 + ((Ft.next l 2 (Ft.next l 8 p).2).1 : Nat); omega), dn, if_neg (by omega)]
        have := dns_of (Ft.several_all (P := fun x => dk x ≤ 2 * d) (fun p => (make_can l d p).2) (2 + (Ft.next l 2 (Ft.next l 2 (Ft.next l 8 p).2).2).1) (Ft.next l 2 (Ft.next l 2 (Ft.next l 8 p).2).2).2)
        omega

theorem query_can (l : List Int) : CanQ (Qy.query l) := by
  have ha := Ft.next_lt (l := l) (n := 20) (p := 0) (by decide)
  have hd := Ft.next_lt (l := l) (n := 20) (p := (Ft.next l 8 (Ft.next l 2 (Ft.next l 20 0).2).2).2) (by decide)
  have hc := Ft.next_lt (l := l) (n := 8) (p := (Ft.next l 2 (Ft.next l 20 0).2).2) (by decide)
  have hk := Ft.next_lt (l := l) (n := 3) (p := (Ft.next l 20 (Ft.next l 8 (Ft.next l 2 (Ft.next l 20 0).2).2).2).2) (by decide)
  unfold Qy.query
  refine ⟨?_, ?_, ?_, ?_, ?_, ?_, ?_, ?_⟩
  · dsimp only; omega
  · dsimp only; omega
  · dsimp only; omega
  · dsimp only; rw [Qy.mats_length]; omega
  · dsimp only
    split
    · rw [Can]; exact .inl ⟨.inl rfl, rfl, rfl, rfl⟩
    · exact (make_can l 3 _).1
  · dsimp only
    split
    · rw [dn, if_neg (by decide), dns]; omega
    · exact Nat.le_trans (dn_le_dk _) (Nat.le_trans (make_can l 3 _).2 (by omega))
  · dsimp only; omega
  · dsimp only; omega

end Go.Proofs.YtkckgjanfiiieaaGreatDoor.PX

namespace Go.Proofs.YtkckgjanfiiieaaGreatDoor.PX
open Go LX MW Lib

theorem toks_of : ∀ {l : List Ft}, (∀ x ∈ l, TOk x) → TOks l
  | [], _ => by rw [TOks]; trivial
  | x :: r, h => by rw [TOks]; exact ⟨h x (by simp), toks_of fun y hy => h y (by simp [hy])⟩

theorem text_ok (c : Nat) : isText (Ft.textOf c).data.toList = true := by
  by_cases h : c < 12
  · have : ∀ c, c < 12 → isText (Ft.textOf c).data.toList = true := by decide +kernel
    exact this c h
  · unfold Ft.textOf
    rw [List.getD_eq_getElem?_getD, List.getElem?_eq_none (by show 12 ≤ c; omega)]
    decide +kernel
theorem name_ok (c : Nat) (h : c < 3) : name (Ft.nameOf c).data.toList = true ∧ isWord (Ft.nameOf c).data.toList = false := by
  have : ∀ c, c < 3 → name (Ft.nameOf c).data.toList = true ∧ isWord (Ft.nameOf c).data.toList = false := by decide +kernel
  exact this c h
theorem key_ok (c : Nat) (h : c < 3) : name (Qy.keys.getD c ⟨#[]⟩).data.toList = true ∧ isWord (Qy.keys.getD c ⟨#[]⟩).data.toList = false := by
  have : ∀ c, c < 3 → name (Qy.keys.getD c ⟨#[]⟩).data.toList = true ∧ isWord (Qy.keys.getD c ⟨#[]⟩).data.toList = false := by decide +kernel
  exact this c h
theorem val_ok (c : Nat) (h : c < 4) : isText (Qy.vals.getD c ⟨#[]⟩).data.toList = true := by
  have : ∀ c, c < 4 → isText (Qy.vals.getD c ⟨#[]⟩).data.toList = true := by decide +kernel
  exact this c h

theorem tok_leaf {op : Int} {n t : ByteArray} (h1 : op = 3 ∨ op = 4 ∨ op = 5 → isText t.data.toList = true) (h2 : op = 5 → name n.data.toList = true ∧ isWord n.data.toList = false) : TOk (.mk op n t []) := by
  rw [TOk, TOks]
  exact ⟨h1, h2, trivial⟩

theorem leaf_tok {l : List Int} {d p : Nat} (h : (Ft.next l (Ft.nd d) p).1 ≤ 4) : TOk (Ft.make l d p).1 := by
  rcases (by omega : (Ft.next l (Ft.nd d) p).1 ≤ 1 ∨ (Ft.next l (Ft.nd d) p).1 = 2 ∨ (Ft.next l (Ft.nd d) p).1 = 3 ∨ (Ft.next l (Ft.nd d) p).1 = 4) with h | h | h | h
  · rw [Ft.make_word h]
    exact tok_leaf (fun _ => text_ok _) (fun h => absurd h (by decide))
  · rw [Ft.make_has h]
    exact tok_leaf (fun _ => text_ok _) (fun h => absurd h (by decide))
  · rw [Ft.make_field h]
    exact tok_leaf (fun _ => text_ok _) (fun _ => name_ok _ (Ft.next_lt (by decide)))
  · rw [Ft.make_bool h]
    have ho := Ft.next_lt (l := l) (n := 2) (p := (Ft.next l (Ft.nd d) p).2) (by decide)
    exact tok_leaf (fun h => by omega) (fun h => by omega)

theorem make_tok (l : List Int) : ∀ (d p : Nat), TOk (Ft.make l d p).1
  | 0, p => by
    have h := Ft.next_lt (l := l) (n := 5) (p := p) (by decide)
    exact leaf_tok (by show (Ft.next l 5 p).1 ≤ 4; omega)
  | d + 1, p => by
    by_cases h4 : (Ft.next l 8 p).1 ≤ 4
    · exact leaf_tok (d := d + 1) h4
    by_cases h5 : (Ft.next l 8 p).1 = 5
    · rw [Ft.make_not h5, TOk]
      exact ⟨fun h => absurd h (by decide), fun h => absurd h (by decide), toks_of fun x hx => by rw [List.mem_singleton] at hx; subst hx; exact make_tok l d _⟩
    · have h6 : 6 ≤ (Ft.next l 8 p).1 := by omega
      rw [Ft.make_and h6, TOk]
      exact ⟨fun h => by omega, fun h => by omega, toks_of (Ft.several_all (P := TOk) (fun p => make_tok l d p) _ _)⟩

theorem mats_ok (l : List Int) : ∀ (k p : Nat), ∀ m ∈ (Qy.mats l k p).1, name m.name.data.toList = true ∧ isWord m.name.data.toList = false ∧ isText m.value.data.toList = true
  | 0, _, m, h => by simp [Qy.mats] at h
  | k + 1, p, m, h => by
    rw [Qy.mats] at h
    rcases List.mem_cons.1 h with rfl | h
    · unfold Qy.mat1
      dsimp only
      have h1 := key_ok _ (Ft.next_lt (l := l) (n := 3) (p := p) (by decide))
      exact ⟨h1.1, h1.2, val_ok _ (Ft.next_lt (by decide))⟩
    · exact mats_ok l k _ m h

theorem query_tok (l : List Int) : TOkQ (Qy.query l) := by
  unfold Qy.query
  refine ⟨?_, ?_, ?_⟩
  · exact mats_ok l _ _
  · dsimp only
    split
    · exact tok_leaf (fun h => by omega) (fun h => by omega)
    · exact make_tok l 3 _
  · show isText (⟨#[]⟩ : ByteArray).data.toList = true
    decide +kernel

/-- A number's text is a number. -/
theorem num_it (n : Int) (h0 : -9223372036854775808 ≤ n) (h1 : n ≤ 9223372036854775807) : Num Lib.itoa n := by
  obtain ⟨hn, _, c, r, he, hr, hc⟩ := itoa_parts n h0 h1
  refine ⟨⟨c, r, he, hc.imp id fun h => dig_ch c h, hr⟩, ?_⟩
  have hname : name (itoa n) = false := by
    rw [Bool.eq_false_iff, he]
    intro h
    obtain ⟨c', r', e, _, hall, hdig⟩ := name_parts h
    cases e
    rcases hc with rfl | hc
    · rw [List.all_cons] at hall
      exact absurd hall (by simp [ch])
    · rw [hc] at hdig; cases hdig
  have hword : isWord (itoa n) = false := by
    rw [Bool.eq_false_iff]
    intro h
    rw [word_name h] at hname
    cases hname
  unfold kindOf
  rw [if_neg (by rw [hword]; decide), if_neg (by rw [hname]; decide), hn]
  rfl

end Go.Proofs.YtkckgjanfiiieaaGreatDoor.PX

namespace Go.Proofs.YtkckgjanfiiieaaGreatDoor.PX
open Go LX MW Lib

end Go.Proofs.YtkckgjanfiiieaaGreatDoor.PX
