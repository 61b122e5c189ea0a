/-
  NOTS AND BRACKETS WITHIN ONE ANOTHER, spelled and parsed: no program in it.
-/
import Derived.Test.YtjghomppmphkoaaGreatDoorPxB
namespace Go.Proofs.YtjghomppmphkoaaGreatDoor.PX
open Go LX MW Lib

/-- A not, or a bracket that opens. -/
def hK (b : Bool) : K := if b = true then kW wNot else kS wOpen
/-- What they are written as. -/
def hT (b : Bool) : List UInt8 := if b = true then [110, 111, 116, 32] else [40]
def hTs : List Bool → List UInt8
  | [] => []
  | b :: r => hT b ++ hTs r
/-- How many brackets open. -/
def opens : List Bool → Nat
  | [] => 0
  | b :: r => (if b = true then 0 else 1) + opens r

theorem hTs_append : ∀ a b : List Bool, hTs (a ++ b) = hTs a ++ hTs b
  | [], _ => rfl
  | x :: r, b => by rw [List.cons_append, hTs, hTs, hTs_append r b, List.append_assoc]
theorem opens_append : ∀ a b : List Bool, opens (a ++ b) = opens a + opens b
  | [], b => by rw [List.nil_append, opens, Nat.zero_add]
  | x :: r, b => by rw [List.cons_append, opens, opens, opens_append r b, Nat.add_assoc]
theorem hTs_length : ∀ a : List Bool, (hTs a).length ≤ 4 * a.length
  | [] => by simp [hTs]
  | x :: r => by
    have := hTs_length r
    rw [hTs, List.length_append, List.length_cons]
    cases x <;> simp [hT] <;> omega
theorem opens_le : ∀ a : List Bool, opens a ≤ a.length
  | [] => by simp [opens]
  | x :: r => by
    have := opens_le r
    rw [opens, List.length_cons]
    cases x <;> simp <;> omega

/-- Their tokens, a true, and what is behind. -/
def dtk (t : List K) : List Bool → List K
  | [] => kW wTrue :: t
  | b :: r => hK b :: dtk t r
def dl (t : List (Nat × K)) : Nat → List Bool → List (Nat × K)
  | n, [] => (n, kW wTrue) :: t
  | n, b :: r => (n, hK b) :: dl t (if b = true then 1 else 0) r

theorem dl_map (t : List (Nat × K)) : ∀ (l : List Bool) (n : Nat), (dl t n l).map (·.2) = dtk (t.map (·.2)) l
  | [], _ => rfl
  | b :: r, n => by rw [dl, List.map_cons, dl_map t r, dtk]
theorem dl_length (t : List (Nat × K)) : ∀ (l : List Bool) (n : Nat), (dl t n l).length = l.length + 1 + t.length
  | [], _ => by simp only [dl, List.length_cons, List.length_nil]; omega
  | b :: r, n => by rw [dl, List.length_cons, dl_length t r, List.length_cons]; omega
theorem lts_h (b : Bool) : List.replicate (0 : Nat) (32 : UInt8) ++ lts (hK b) ++ List.replicate (if b = true then 1 else 0) 32 = hT b := by
  cases b <;> rfl
theorem lts_hlen (b : Bool) : (lts (hK b)).length + (if b = true then 1 else 0) = (hT b).length := by
  cases b <;> rfl

theorem dl_spell (t : List (Nat × K)) : ∀ (l : List Bool) (n : Nat), spell (dl t n l) = List.replicate n 32 ++ (hTs l ++ (wTrue ++ spell t))
  | [], n => by rw [dl, spell, hTs, List.nil_append]; rfl
  | b :: r, n => by
    rw [dl, spell, dl_spell t r, hTs, ← lts_h b]
    simp only [List.append_assoc, List.replicate_zero, List.nil_append]

theorem dl_places (t : List (Nat × K)) : ∀ (l : List Bool) (n i j : Nat), j < l.length → (plc i (dl t n l))[j]? = some (i + n + (hTs (l.take j)).length + 1)
  | [], _, _, _, h => by simp at h
  | b :: r, n, i, 0, _ => by rw [dl, plc]; rfl
  | b :: r, n, i, j + 1, h => by
    rw [dl, plc, List.getElem?_cons_succ, dl_places t r _ _ j (by simpa using h), List.take_succ_cons, hTs, List.length_append, ← lts_hlen b]
    congr 1
    omega

theorem dl_sp {t : List (Nat × K)} (ht : Sp t []) (hq : run (spell t ++ []) = []) : ∀ (l : List Bool) (n : Nat), Sp (dl t n l) []
  | [], n => by
    rw [dl, Sp]
    exact ⟨good_w (by decide), fun _ => hq, ht⟩
  | b :: r, n => by
    rw [dl, Sp]
    refine ⟨?_, fun hk => ?_, dl_sp ht hq r _⟩
    · cases b
      · exact good_s (.inr (.inl rfl))
      · exact good_w (by decide)
    · cases b
      · exact absurd hk (by show ¬ 5 ≤ 3; decide)
      · cases r with
        | nil => exact run_one 0 _ _ []
        | cons c q => exact run_one 0 _ _ []

theorem isT_h {t : Tok} {b : Bool} (h : Fits t (hK b)) : isT t wNot = b ∧ isT t wOpen = !b := by
  cases b
  · exact ⟨by rw [isT_sign (s := wOpen) h]; decide, by rw [isT_sign (s := wOpen) h]; decide⟩
  · exact ⟨by rw [isT_word (s := wNot) h]; decide, by rw [isT_word (s := wNot) h]; decide⟩

/-- As many as may be: read. -/
theorem depth_ok (ts : List Tok) : ∀ (l : List Bool) (d i : Nat) (t : List K), l.length ≤ d → Runs ts i (dtk (List.replicate (opens l) (kS wShut) ++ t) l) →
    ∃ f, atom ts d i = .ok (f, i + l.length + 1 + opens l)
  | [], d, i, t, _, hr => by
    have h0 : Fits (tk ts i) (kW wTrue) := hr.head
    refine ⟨.mk 1 ⟨#[]⟩ ⟨#[]⟩ [], ?_⟩
    unfold atom
    rw [if_neg (by rw [isT_word h0]; decide), if_neg (by rw [isT_word h0]; decide)]
    unfold leaf
    rw [if_pos (by rw [isT_word h0]; decide)]
    rfl
  | b :: r, 0, i, t, h, _ => absurd h (by simp)
  | true :: r, d + 1, i, t, h, hr => by
    have h0 := isT_h (b := true) hr.head
    rw [opens] at hr
    obtain ⟨f, hf⟩ := depth_ok ts r d (i + 1) t (by simpa using h) (by simpa using hr.tail)
    refine ⟨.mk 6 ⟨#[]⟩ ⟨#[]⟩ [f], ?_⟩
    unfold atom
    rw [if_pos h0.1]
    dsimp only
    rw [hf]
    dsimp only
    rw [opens, if_pos rfl, List.length_cons]
    congr 2
    omega
  | false :: r, d + 1, i, t, h, hr => by
    have h0 := isT_h (b := false) hr.head
    have ht : Runs ts (i + 1) (dtk (List.replicate (opens r) (kS wShut) ++ kS wShut :: t) r) := by
      have h1 := hr.tail
      rw [opens, if_neg (by decide), Nat.add_comm 1, List.replicate_succ', List.append_assoc] at h1
      exact h1
    obtain ⟨f, hf⟩ := depth_ok ts r d (i + 1) (kS wShut :: t) (by simpa using h) ht
    have hs : Fits (tk ts (i + 1 + r.length + 1 + opens r)) (kS wShut) := by
      have e : ∀ (u : List K) (q : List Bool), dtk u q = q.map hK ++ kW wTrue :: u := fun u q => by
        induction q with
        | nil => rfl
        | cons x y ih => rw [dtk, ih]; rfl
      rw [e] at ht
      have h2 := ht.right.tail.right.head
      simpa using h2
    refine ⟨f, ?_⟩
    unfold atom
    rw [if_neg (by rw [h0.1]; decide), if_pos (by rw [h0.2]; decide)]
    dsimp only
    unfold orF andF
    rw [row_one (row_one hf (by rw [isT_sign hs]; decide)) (by rw [isT_sign hs]; decide)]
    dsimp only
    rw [want_sign hs]
    dsimp only
    rw [opens, if_neg (by decide), List.length_cons]
    congr 2
    omega

theorem row_err {ts : List Tok} {w : List UInt8} {op : Int} {one : Nat → PR Ft} {i : Nat} {e : Nat × Nat} (h : one i = .error e) : row ts w op one i = .error e := by
  unfold row
  rw [h]

/-- One too many: told where it stands. -/
theorem depth_no (ts : List Tok) : ∀ (l : List Bool) (d i : Nat) (t : List K), d < l.length → Runs ts i (dtk t l) → atom ts d i = .error (6, (tk ts (i + d)).place)
  | [], _, _, _, h, _ => by simp at h
  | b :: r, 0, i, t, _, hr => by
    have h0 := isT_h hr.head
    unfold atom
    cases b
    · rw [if_neg (by rw [h0.1]; decide), if_pos (by rw [h0.2]; rfl)]
      rfl
    · rw [if_pos h0.1]
      rfl
  | b :: r, d + 1, i, t, h, hr => by
    have h0 := isT_h hr.head
    have ih := depth_no ts r d (i + 1) t (by simpa using h) hr.tail
    have e : i + 1 + d = i + (d + 1) := by omega
    rw [e] at ih
    unfold atom
    cases b
    · rw [if_neg (by rw [h0.1]; decide), if_pos (by rw [h0.2]; rfl)]
      dsimp only
      unfold orF andF
      rw [row_err (row_err ih)]
    · rw [if_pos h0.1]
      dsimp only
      rw [ih]

def k0 : K := kI (fun _ => [48]) 0
def k9 : K := kI (fun _ => [57]) 9
def k1 : K := kI (fun _ => [49]) 1
def lim1 : List (Nat × K) := [(1, kW wLimit), (1, k1)]
/-- The whole text's tokens. -/
def deepL (l : List Bool) : List (Nat × K) := (0, kW wFrom) :: (1, k0) :: (1, kW wTo) :: (1, k9) :: (1, kW wFind) :: dl (List.replicate (opens l) (0, kS wShut) ++ lim1) 1 l

theorem shut_sp : ∀ n, Sp (List.replicate n (0, kS wShut) ++ lim1) [] ∧ run (spell (List.replicate n (0, kS wShut) ++ lim1) ++ []) = []
  | 0 => by
    refine ⟨?_, run_one 0 _ _ []⟩
    rw [List.replicate_zero, List.nil_append, lim1, Sp, Sp, Sp]
    exact ⟨good_w (by decide), fun _ => run_one 0 _ _ [], good_i ⟨⟨49, [], rfl, .inr (by decide), rfl⟩, by rfl⟩, fun _ => rfl, trivial⟩
  | n + 1 => by
    rw [List.replicate_succ, List.cons_append]
    refine ⟨?_, run_of 41 _ (by decide)⟩
    rw [Sp]
    exact ⟨good_s (.inr (.inr (.inl rfl))), fun h => absurd h (by show ¬ 5 ≤ 3; decide), (shut_sp n).1⟩

theorem deep_spaced (l : List Bool) : Spaced (deepL l) := by
  apply sp_spaced
  unfold deepL
  rw [Sp, Sp, Sp, Sp, Sp]
  refine ⟨good_w (by decide), fun _ => run_one 0 _ _ [], good_i ⟨⟨48, [], rfl, .inr (by decide), rfl⟩, by rfl⟩, fun _ => run_one 0 _ _ [], good_w (by decide), fun _ => run_one 0 _ _ [], good_i ⟨⟨57, [], rfl, .inr (by decide), rfl⟩, by rfl⟩, fun _ => run_one 0 _ _ [], good_w (by decide), fun _ => ?_, dl_sp (shut_sp _).1 (shut_sp _).2 l 1⟩
  cases l with
  | nil => exact run_one 0 _ _ []
  | cons b r => exact run_one 0 _ _ []

theorem shuts_spell : ∀ n, spell (List.replicate n (0, kS wShut) ++ lim1) = List.replicate n 41 ++ [32, 108, 105, 109, 105, 116, 32, 49]
  | 0 => by rfl
  | n + 1 => by rw [List.replicate_succ, List.cons_append, spell, shuts_spell n]; rfl

def deepHead : List UInt8 := [102, 114, 111, 109, 32, 48, 32, 116, 111, 32, 57, 32, 102, 105, 110, 100, 32]
theorem deep_spell (l : List Bool) : spell (deepL l) = deepHead ++ hTs l ++ [116, 114, 117, 101] ++ List.replicate (opens l) 41 ++ [32, 108, 105, 109, 105, 116, 32, 49] := by
  unfold deepL
  rw [spell, spell, spell, spell, spell, dl_spell, shuts_spell]
  simp only [List.append_assoc]
  rfl

/-- What Parse answers. -/
theorem parse_deep (l : List Bool) (hl : l.length ≤ 20) : (l.length ≤ 8 → ∃ f, parse (spell (deepL l)) = .ok ⟨0, 9, [], f, false, 1, ⟨#[]⟩⟩) ∧
    (8 < l.length → parse (spell (deepL l)) = .error (6, 17 + (hTs (l.take 8)).length + 1)) := by
  have hlen : (spell (deepL l)).length ≤ 1024 := by
    have h1 := hTs_length l
    have h2 := opens_le l
    rw [deep_spell]
    simp only [List.length_append, List.length_replicate, List.length_cons, List.length_nil, deepHead]
    omega
  obtain ⟨ts, hx, hr, he, hp, _, hn⟩ := lex_places (deep_spaced l) hlen
  unfold parse
  rw [hx]
  dsimp only
  have hlm : ((deepL l).map (·.2)).length = l.length + opens l + 8 := by
    unfold deepL
    simp only [List.map_cons, List.length_cons, List.length_map, dl_length, List.length_append, List.length_replicate, lim1, List.length_nil]
    omega
  rw [hlm] at he
  have hr : Runs ts 0 (kW wFrom :: k0 :: kW wTo :: k9 :: kW wFind :: dtk (List.replicate (opens l) (kS wShut) ++ [kW wLimit, k1]) l) := by
    have e : (deepL l).map (·.2) = kW wFrom :: k0 :: kW wTo :: k9 :: kW wFind :: dtk (List.replicate (opens l) (kS wShut) ++ [kW wLimit, k1]) l := by
      unfold deepL
      rw [List.map_cons, List.map_cons, List.map_cons, List.map_cons, List.map_cons, dl_map, List.map_append, List.map_replicate]
      rfl
    rwa [e] at hr
  have h0 := hr.head
  have h1 : Fits (tk ts 1) _ := hr.tail.head
  have h2 : Fits (tk ts 2) _ := hr.tail.tail.head
  have h3 : Fits (tk ts 3) _ := hr.tail.tail.tail.head
  have h4 : Fits (tk ts 4) (kW wFind) := hr.tail.tail.tail.tail.head
  have h5 : Runs ts 5 _ := hr.tail.tail.tail.tail.tail
  have n1 : number ts (-1099511627776) 1099511627776 (0 + 1) = .ok (0, 2) := number_fits h1 (by decide) (by decide)
  have n3 : number ts (-1099511627776) 1099511627776 (2 + 1) = .ok (9, 4) := number_fits h3 (by decide) (by decide)
  have hwh : wheres ts ts.length 0 4 = .ok ([], 4) := by
    cases ts.length
    · rfl
    · rw [wheres, if_neg (by rw [isT_word h4]; decide)]
  refine ⟨fun h8 => ?_, fun h8 => ?_⟩
  · obtain ⟨f, hf⟩ := depth_ok ts l 8 5 [kW wLimit, k1] h8 h5
    have e : ∀ (u : List K) (q : List Bool), dtk u q = q.map hK ++ kW wTrue :: u := fun u q => by
      induction q with
      | nil => rfl
      | cons x y ih => rw [dtk, ih]; rfl
    have hL : Runs ts (5 + l.length + 1 + opens l) [kW wLimit, k1] := by
      rw [e] at h5
      have := h5.right.tail.right
      simpa using this
    have l0 := hL.head
    have l1 := hL.tail.head
    have lE : (tk ts (5 + l.length + 1 + opens l + 1 + 1)).kind = 0 := by
      rw [← he]
      congr 2
      omega
    refine ⟨f, ?_⟩
    unfold query
    rw [want_word h0]
    dsimp only
    rw [n1]
    dsimp only
    rw [want_word h2]
    dsimp only
    rw [n3]
    dsimp only
    rw [if_neg (by decide), hwh]
    dsimp only
    rw [if_pos (by rw [isT_word h4]; decide)]
    unfold orF andF
    rw [row_one (row_one hf (by rw [isT_word l0]; decide)) (by rw [isT_word l0]; decide)]
    dsimp only
    rw [if_neg (by rw [isT_word l0]; decide)]
    dsimp only
    rw [want_word l0]
    dsimp only
    rw [show number ts 1 50 (5 + l.length + 1 + opens l + 1) = _ from number_fits l1 (by decide) (by decide)]
    dsimp only
    rw [if_neg (by rw [isT_end lE]; decide)]
    dsimp only
    rw [if_pos lE]
  · have hf := depth_no ts l 8 5 _ h8 h5
    have hpl : (tk ts (5 + 8)).place = 17 + (hTs (l.take 8)).length + 1 := by
      have := hp (5 + 8) (by
        have := hlm
        rw [List.length_map] at this
        omega)
      unfold deepL at this
      rw [plc, plc, plc, plc, plc, List.getElem?_cons_succ, List.getElem?_cons_succ, List.getElem?_cons_succ, List.getElem?_cons_succ, List.getElem?_cons_succ, dl_places _ _ _ _ _ h8] at this
      exact Option.some.inj this
    rw [hpl] at hf
    unfold query
    rw [want_word h0]
    dsimp only
    rw [n1]
    dsimp only
    rw [want_word h2]
    dsimp only
    rw [n3]
    dsimp only
    rw [if_neg (by decide), hwh]
    dsimp only
    rw [if_pos (by rw [isT_word h4]; decide)]
    unfold orF andF
    rw [row_err (row_err (show atom ts 8 (4 + 1) = _ from hf))]

end Go.Proofs.YtjghomppmphkoaaGreatDoor.PX
