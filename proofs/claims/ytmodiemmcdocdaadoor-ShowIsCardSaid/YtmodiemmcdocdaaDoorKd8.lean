/-
  A TOLD QUERY'S TEXT: it is parsed as it, or stands too deep; how long it is. No program in it.
-/
import Derived.Test.YtmodiemmcdocdaaDoorKs8
import Derived.Test.YtmodiemmcdocdaaDoorLxA
namespace Go.Proofs.YtmodiemmcdocdaaDoor.PX
open Go LX MW

/-- The one with less room reads the same, or is told that it is too deep. -/
def Near {α : Type} (one all : Nat → PR α) : Prop := ∀ i, one i = all i ∨ ∃ p, one i = .error (6, p)

theorem rest_near {ts : List Tok} {w : List UInt8} {one all : Nat → PR Ft} (h : Near one all) : ∀ f, Near (rest ts w one f) (rest ts w all f)
  | 0 => fun i => .inl rfl
  | f + 1 => fun i => by
    rw [rest, rest]
    by_cases hw : isT (tk ts i) w = true
    · rw [if_pos hw, if_pos hw]
      rcases h (i + 1) with h1 | ⟨p, h1⟩
      · rw [h1]
        cases all (i + 1) with
        | error e => exact .inl rfl
        | ok x =>
          obtain ⟨x, j⟩ := x
          dsimp only
          rcases rest_near h f j with h2 | ⟨p, h2⟩
          · rw [h2]; exact .inl rfl
          · rw [h2]; exact .inr ⟨p, rfl⟩
      · rw [h1]; exact .inr ⟨p, rfl⟩
    · rw [if_neg hw, if_neg hw]; exact .inl rfl
theorem row_near {ts : List Tok} {w : List UInt8} {op : Int} {one all : Nat → PR Ft} (h : Near one all) : Near (row ts w op one) (row ts w op all) := by
  intro i
  unfold row
  rcases h i with h1 | ⟨p, h1⟩
  · rw [h1]
    cases all i with
    | error e => exact .inl rfl
    | ok x =>
      obtain ⟨x, j⟩ := x
      dsimp only
      rcases rest_near (ts := ts) (w := w) h ts.length j with h2 | ⟨p, h2⟩
      · rw [h2]; exact .inl rfl
      · rw [h2]; exact .inr ⟨p, rfl⟩
  · rw [h1]; exact .inr ⟨p, rfl⟩

theorem atom_near (ts : List Tok) (m : Nat) : ∀ d, Near (atom ts d) (atom ts (d + m))
  | 0 => fun i => by
    cases m with
    | zero => exact .inl rfl
    | succ m =>
      rw [show 0 + (m + 1) = m + 1 by omega]
      unfold atom
      by_cases h1 : isT (tk ts i) wNot = true
      · rw [if_pos h1]; exact .inr ⟨_, rfl⟩
      rw [if_neg h1, if_neg h1]
      by_cases h2 : isT (tk ts i) wOpen = true
      · rw [if_pos h2]; exact .inr ⟨_, rfl⟩
      rw [if_neg h2, if_neg h2]; exact .inl rfl
  | d + 1 => fun i => by
    have ih := atom_near ts m d
    rw [show d + 1 + m = (d + m) + 1 by omega]
    unfold atom
    by_cases h1 : isT (tk ts i) wNot = true
    · rw [if_pos h1, if_pos h1]
      dsimp only
      rcases ih (i + 1) with h3 | ⟨p, h3⟩
      · rw [h3]; exact .inl rfl
      · rw [h3]; exact .inr ⟨p, rfl⟩
    rw [if_neg h1, if_neg h1]
    by_cases h2 : isT (tk ts i) wOpen = true
    · rw [if_pos h2, if_pos h2]
      dsimp only
      rcases row_near (ts := ts) (w := wOr) (op := 8) (row_near (ts := ts) (w := wAnd) (op := 7) ih) (i + 1) with h3 | ⟨p, h3⟩
      · rw [show orF ts (atom ts d) (i + 1) = _ from h3]; exact .inl rfl
      · rw [show orF ts (atom ts d) (i + 1) = _ from h3]; exact .inr ⟨p, rfl⟩
    rw [if_neg h2, if_neg h2]; exact .inl rfl

/-- A filter's tokens, from the top, whichever it is. -/
theorem filter_near {ts : List Tok} {i : Nat} {k : Ft} (hc : Can k) (hr : Runs ts i (ftk k)) (hna : isT (tk ts (i + (ftk k).length)) wAnd = false) (hno : isT (tk ts (i + (ftk k).length)) wOr = false) :
    orF ts (atom ts 8) i = .ok (k, i + (ftk k).length) ∨ ∃ p, orF ts (atom ts 8) i = .error (6, p) := by
  have h := filter_reads (d := 8 + dn k) hc (by omega) hr hna hno
  rcases row_near (ts := ts) (w := wOr) (op := 8) (row_near (ts := ts) (w := wAnd) (op := 7) (atom_near ts (dn k) 8)) i with h1 | h1
  · left
    rw [show orF ts (atom ts 8) i = _ from h1]
    exact h
  · exact .inr h1

/-- A query's tokens are the query, or it stands too deep. -/
theorem query_near {ts : List Tok} {it : Int → List UInt8} {q : Qy} (hc : Read q) (hr : Runs ts 0 (qtk it q)) (hend : (tk ts (qtk it q).length).kind = 0) : query ts = .ok q ∨ ∃ p, query ts = .error (6, p) := by
  obtain ⟨src, til, mat, fil, desc, lim, page⟩ := q
  obtain ⟨f0, _, _, t1, ft, ms, _, hcf, _, _, l0, l1, _, _⟩ := hc
  dsimp only at f0 t1 ft ms hcf l0 l1
  unfold qtk at hr hend
  dsimp only at hr hend
  have h0 := hr.head
  have h1 := hr.tail.head
  have h2 := hr.tail.tail.head
  have h3 := hr.tail.tail.tail.head
  have hr4 := hr.tail.tail.tail.tail
  rw [show 0 + 1 + 1 + 1 + 1 = 4 from rfl] at hr4
  have hrm := hr4.left
  have hr5 := hr4.right
  obtain ⟨i5, hi5⟩ : ∃ i5, i5 = 4 + (mtk mat).length := ⟨_, rfl⟩
  rw [← hi5] at hr5
  have hend : (tk ts (i5 + (tail1 it ⟨src, til, mat, fil, desc, lim, page⟩).length)).kind = 0 := by
    rw [← hend, hi5]
    congr 2
    simp only [List.length_cons, List.length_append]
    omega
  -- ahead of find
  obtain ⟨i6, hi6⟩ : ∃ i6, i6 = i5 + (if fil.op = 1 then ([] : List K) else kW wFind :: ftk fil).length := ⟨_, rfl⟩
  have hr6 : Runs ts i6 (tail2 it ⟨src, til, mat, fil, desc, lim, page⟩) := by rw [hi6]; exact hr5.right
  have hend : (tk ts (i6 + (tail2 it ⟨src, til, mat, fil, desc, lim, page⟩).length)).kind = 0 := by
    rw [← hend, hi6]
    congr 2
    unfold tail1
    simp only [List.length_append]
    omega
  obtain ⟨i7, hi7⟩ : ∃ i7, i7 = i6 + (if desc = true then [kW wDesc] else ([] : List K)).length := ⟨_, rfl⟩
  have hr7 : Runs ts i7 (tail3 it ⟨src, til, mat, fil, desc, lim, page⟩) := by rw [hi7]; exact hr6.right
  have hend : (tk ts (i7 + (tail3 it ⟨src, til, mat, fil, desc, lim, page⟩).length)).kind = 0 := by
    rw [← hend, hi7]
    congr 2
    unfold tail2
    simp only [List.length_append]
    omega
  have hlim := hr7.head
  have hnum := hr7.tail.head
  have hr8 := hr7.tail.tail
  have hend : (tk ts (i7 + 1 + 1 + (tail4 ⟨src, til, mat, fil, desc, lim, page⟩).length)).kind = 0 := by
    rw [← hend]
    congr 2
    unfold tail3
    simp only [List.length_cons]
    omega
  have hdesc : (if isT (tk ts i6) wDesc = true then (true, i6 + 1) else (false, i6)) = (desc, i7) := by
    cases desc
    · have e : i7 = i6 := by rw [hi7]; simp
      rw [← e, if_neg (by rw [isT_word hlim]; decide)]
    · have e : i7 = i6 + 1 := by rw [hi7]; simp
      have h := hr6.left
      simp only [if_true] at h
      rw [if_pos (by rw [isT_word h.head]; decide), e]
  have hs6 : ∀ s, s ≠ wDesc → s ≠ wLimit → isT (tk ts i6) s = false := fun s hs1 hs2 => by
    cases desc
    · have e : i7 = i6 := by rw [hi7]; simp
      rw [← e, isT_word hlim]
      exact decide_eq_false fun h => hs2 h.symm
    · have h := hr6.left
      simp only [if_true] at h
      rw [isT_word h.head]
      exact decide_eq_false fun h => hs1 h.symm
  have hfind : (if isT (tk ts i5) wFind = true then orF ts (atom ts 8) (i5 + 1) else .ok (.mk 1 ⟨#[]⟩ ⟨#[]⟩ [], i5)) = .ok (fil, i6) ∨ ∃ p, (if isT (tk ts i5) wFind = true then orF ts (atom ts 8) (i5 + 1) else .ok (.mk 1 ⟨#[]⟩ ⟨#[]⟩ [], i5)) = .error (6, p) := by
    by_cases h : fil.op = 1
    · left
      have e : i6 = i5 := by rw [hi6, if_pos h]; simp
      rw [← e, if_neg (by rw [hs6 wFind (by decide) (by decide)]; decide), can_true hcf h]
    · have h5 := hr5.left
      dsimp only at h5
      rw [if_neg h] at h5
      have e : i6 = i5 + 1 + (ftk fil).length := by rw [hi6, if_neg h]; simp only [List.length_cons]; omega
      rw [if_pos (by rw [isT_word h5.head]; decide)]
      rcases filter_near hcf h5.tail (by rw [← e]; exact hs6 _ (by decide) (by decide)) (by rw [← e]; exact hs6 _ (by decide) (by decide)) with h7 | h7
      · exact .inl (by rw [h7, e])
      · exact .inr h7
  have hwh : isT (tk ts i5) wWhere = false := by
    by_cases h : fil.op = 1
    · have e : i6 = i5 := by rw [hi6, if_pos h]; simp
      rw [← e]
      exact hs6 _ (by decide) (by decide)
    · have h5 := hr5.left
      dsimp only at h5
      rw [if_neg h] at h5
      rw [isT_word h5.head]
      decide
  have hmat := wheres_reads mat ts.length 0 4 (by omega) (by have := hrm.1; rw [mtk_length] at this; omega) hrm (by rw [← hi5]; exact hwh)
  rw [← hi5] at hmat
  unfold query
  rw [want_word h0]
  dsimp only
  rw [number_fits h1 (by omega) (by omega)]
  dsimp only
  rw [want_word h2]
  dsimp only
  rw [number_fits h3 (by omega) (by omega)]
  dsimp only
  rw [if_neg (by omega), show 0 + 1 + 1 + 1 + 1 = 4 from rfl, hmat]
  dsimp only
  rcases hfind with hfind | ⟨p, hfind⟩
  rotate_left
  · rw [hfind]
    exact .inr ⟨_, rfl⟩
  left
  rw [hfind]
  dsimp only
  rw [hdesc]
  dsimp only
  rw [want_word hlim]
  dsimp only
  rw [number_fits hnum (by omega) (by omega)]
  dsimp only
  by_cases h : page = ⟨#[]⟩
  · have e : tail4 ⟨src, til, mat, fil, desc, lim, page⟩ = [] := by unfold tail4; rw [if_pos h]
    rw [e] at hend
    simp only [List.length_nil, Nat.add_zero] at hend
    rw [if_neg (by rw [isT_end hend]; decide)]
    dsimp only
    rw [if_pos hend, h]
  · have e : tail4 ⟨src, til, mat, fil, desc, lim, page⟩ = [kW wPage, kT page.data.toList] := by unfold tail4; rw [if_neg h]
    rw [e] at hend hr8
    have hend : (tk ts (i7 + 1 + 1 + 1 + 1)).kind = 0 := hend
    have hp := hr8.tail.head
    rw [if_pos (by rw [isT_word hr8.head]; decide), show token ts 4 (i7 + 1 + 1 + 1) = _ from token_fits hp]
    dsimp only
    rw [if_pos hend, show bs (tk ts (i7 + 1 + 1 + 1)).says = page by rw [hp.2.1]; exact bs_toList _]


theorem qsp_near {it : Int → List UInt8} {q : Qy} (hc : Can q.fil) (ht : TOkQ q) (h1 : Num it q.src) (h2 : Num it q.til) (h3 : Num it q.lim) : Sp (qsp it q) [] := by
  have hp : Sp (psp q) [] := by
    unfold psp
    split
    · rw [Sp]; trivial
    · rw [Sp, Sp, Sp]
      exact ⟨good_w (by decide), fun _ => run_one 0 _ _ [], good_t ht.page, fun h => absurd h (by show ¬ 4 ≤ 3; decide), trivial⟩
  have hl : Sp (lsp it q) [] := by
    unfold lsp
    rw [Sp, Sp]
    exact ⟨good_w (by decide), fun _ => run_one 0 _ _ [], good_i h3, fun _ => psp_run q, hp⟩
  have hd : Sp (dsp it q) [] := by
    unfold dsp
    refine sp_append ?_ hl
    split
    · rw [Sp, Sp]
      exact ⟨good_w (by decide), fun _ => run_one 0 _ _ _, trivial⟩
    · rw [Sp]; trivial
  have hdr : run (spell (dsp it q) ++ []) = [] := by
    unfold dsp
    split
    · exact run_one 0 _ _ []
    · exact run_one 0 _ _ []
  have hn : Sp (nsp it q) [] := by
    unfold nsp
    refine sp_append ?_ hd
    split
    · rw [Sp]; trivial
    · rw [Sp]
      refine ⟨good_w (by decide), fun _ => ?_, fsp_sp _ q.fil (Nat.le_refl _) hc ht.fil 1 _ hdr⟩
      obtain ⟨x, r, e⟩ := fsp_head q.fil.count q.fil (Nat.le_refl _) hc 1
      rw [e]
      exact run_one 0 _ _ _
  have hnr : run (spell (nsp it q) ++ []) = [] := by
    unfold nsp
    split
    · exact hdr
    · exact run_one 0 _ _ []
  unfold qsp
  rw [Sp, Sp, Sp, Sp]
  refine ⟨good_w (by decide), fun _ => run_one 0 _ _ [], good_i h1, fun _ => run_one 0 _ _ [], good_w (by decide), fun _ => run_one 0 _ _ [], good_i h2, fun _ => ?_, sp_append (msp_sp ht.ms) hn⟩
  cases hm : q.mat with
  | nil => exact hnr
  | cons m r => exact run_one 0 _ _ _

/-- A told query's text, parsed. -/
theorem parse_near {q : Qy} (hc : Read q) : parse (spell (qsp Lib.itoa q)) = .ok q ∨ ∃ p, parse (spell (qsp Lib.itoa q)) = .error (6, p) := by
  by_cases hlen : (spell (qsp Lib.itoa q)).length ≤ 1024
  · have e0 := hc.f0
    have e1 := hc.f1
    have e2 := hc.t0
    have e3 := hc.t1
    have e4 := hc.l0
    have e5 := hc.l1
    obtain ⟨ts, hl, hr, he⟩ := lex_spell (sp_spaced (qsp_near (it := Lib.itoa) hc.fil ⟨fun m hm => ⟨(hc.mat m hm).1, (hc.mat m hm).2.1, (hc.mat m hm).2.2.1⟩, hc.tok, hc.page⟩ (num_it _ (by omega) (by omega)) (num_it _ (by omega) (by omega)) (num_it _ (by omega) (by omega)))) hlen
    unfold parse
    rw [hl]
    rw [qsp_map] at hr he
    exact query_near hc hr he
  · right
    refine ⟨1, ?_⟩
    unfold parse LX.lex
    rw [if_pos (by omega)]

/-- Two queries of one text are the same, however long it is. -/
theorem text_inj {q p : Qy} (hq : CanQ q) (tq : TOkQ q) (hp : CanQ p) (tp : TOkQ p) (q1 : Num Lib.itoa q.src) (q2 : Num Lib.itoa q.til) (q3 : Num Lib.itoa q.lim) (p1 : Num Lib.itoa p.src) (p2 : Num Lib.itoa p.til) (p3 : Num Lib.itoa p.lim) (h : spell (qsp Lib.itoa q) = spell (qsp Lib.itoa p)) : q = p := by
  obtain ⟨ts, h1, h2⟩ := toks_spell _ 0 (sp_spaced (qsp_sp hq tq q1 q2 q3))
  obtain ⟨us, h3, h4⟩ := toks_spell _ 0 (sp_spaced (qsp_sp hp tp p1 p2 p3))
  rw [h] at h1
  rw [h1] at h3
  cases h3
  have run : ∀ {r : Qy}, (ts.map Tok.bare = (qsp Lib.itoa r).map (·.2)) → Runs (ts ++ [⟨0, [], 0, 0⟩]) 0 (qtk Lib.itoa r) ∧ (tk (ts ++ [⟨0, [], 0, 0⟩]) (qtk Lib.itoa r).length).kind = 0 := fun {r} hb => by
    rw [qsp_map] at hb
    have hn : (qtk Lib.itoa r).length = ts.length := by rw [← hb, List.length_map]
    refine ⟨⟨by rw [List.length_append]; omega, fun j hj => ?_⟩, ?_⟩
    · have hj' : j < ts.length := by omega
      have e : tk (ts ++ [⟨0, [], 0, 0⟩]) (0 + j) = ts[j] := by
        rw [Nat.zero_add, tk_get (by simp; omega), List.getElem_append_left hj']
      have hb' : (ts.map Tok.bare)[j]'(by simpa using hj') = (qtk Lib.itoa r)[j] := by simp only [hb]
      rw [List.getElem_map] at hb'
      rw [e, ← hb']
      exact ⟨rfl, rfl, rfl⟩
    · rw [hn, tk_get (by simp), List.getElem_append_right (Nat.le_refl _)]
      simp
  have a := run h2
  have b := run h4
  have c := query_reads hq a.1 a.2
  have d := query_reads hp b.1 b.2
  rw [c] at d
  cases d
  rfl
end Go.Proofs.YtmodiemmcdocdaaDoor.PX
