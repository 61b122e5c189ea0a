/-
  Nw15, Eg16, Gp16, Gq16.
-/
import Derived.Test.YtoobjjpheegmdaaGreatJ36
import Derived.Test.YtoobjjpheegmdaaGreatJ12
import Derived.Test.YtoobjjpheegmdaaGreatJ19
import Derived.Test.YtoobjjpheegmdaaGreatJ14
import Derived.Test.YtoobjjpheegmdaaGreatJ16
import Derived.Test.YtoobjjpheegmdaaGreatJ29
import Derived.Test.YtoobjjpheegmdaaGreatJ26
import Derived.Test.YtoobjjpheegmdaaGreatJ35
import Derived.Test.YtoobjjpheegmdaaGreatJ09
namespace Go.Proofs.YtoobjjpheegmdaaGreat.E4
open Go.RowKit Go
theorem len5_any (w : World) (B gb : Nat) (es : List Ent) (h : EngAt5 w B gb es) : Calls Tryz.prog 174 #[.pointer (some ⟨gb, 0, none⟩)] w fun e w' => e = .returned (.int .i64 es.length) ∧ w' = w := by
  obtain ⟨tv, h⟩ := h
  have c1 := h.c.cell 1
  simp only [List.getElem?_toArray, List.getElem?_cons_succ, List.getElem?_cons_zero] at c1
  clear h
  go_enter Tryz.func174, Tryz.ntmps174
  go_wp2_with fail
  go_ret
  exact ⟨rfl, rfl⟩
theorem new5_any (w : World) (hm : MaxI w) : Calls Tryz.prog 32 #[] w fun e w' => e = .returned (.pointer (some ⟨w.heap.size, 0, none⟩)) ∧ EngAt5 w' w.heap.size w.heap.size [] ∧ Lay w w' := by
  obtain ⟨w1, hw1⟩ : ∃ w1, w1 = w.alloc (.cells #[.slice none 0 0, .int .i64 0] 102) := ⟨_, rfl⟩
  have hl1 : Lay w w1 := by rw [hw1]; exact (Keep.refl _ w).alloc _
  have hg1 : Bl w1 w.heap.size 102 #[.slice none 0 0, .int .i64 0] := by rw [hw1]; exact Bl.new w _ _
  have HE : Hid (EngAt5 w1 w.heap.size w.heap.size []) := Lib.hid ⟨.slice none 0 0, hg1, Rk.nil 1 _ _, hm.pos, Nat.le_refl _, (fun x hx => by cases hx), List.Pairwise.nil, hm.below1 (lay_below hl1)⟩
  have HL := Lib.hid hl1
  have HW1 := Lib.hid hw1.symm
  clear hg1 hl1 hw1 hm
  go_enter Tryz.func32, Tryz.ntmps32
  go_wp2_with fail
  rw [HW1.out]
  go_ret
  exact ⟨rfl, HE.out, HL.out⟩
end Go.Proofs.YtoobjjpheegmdaaGreat.E4
namespace Go.Proofs.YtoobjjpheegmdaaGreat.E4
open Go.RowKit Go
def EngF (k : Nat) (F : Nat → Prop) (w : World) (gb : Nat) (es : List Ent) : Prop :=
  (k = 1 ∧ ∃ κ, (∀ b, κ b ≠ 0 → F b) ∧ EngK3 κ w 0 gb es) ∨ (k = 2 ∧ ∃ κ, (∀ b, κ b ≠ 0 → F b) ∧ EngK4 κ w 0 gb es) ∨ (k = 3 ∧ ∃ tv, (∀ b, (b = gb ∨ At tv b) → F b) ∧ EngC5 w 1 gb tv es)
theorem EngF.carry {k : Nat} {F : Nat → Prop} {w w' : World} {gb : Nat} {es : List Ent} (h : EngF k F w gb es) (hs : w.heap.size ≤ w'.heap.size) (h0 : w'.heap[0]? = w.heap[0]?) (hb : ∀ b, b < w.heap.size → F b → w'.heap[b]? = w.heap[b]?) : EngF k F w' gb es := by
  rcases h with ⟨rfl, κ, h1, h2⟩ | ⟨rfl, κ, h1, h2⟩ | ⟨rfl, tv, h1, h2⟩
  · exact .inl ⟨rfl, κ, h1, h2.carry hs fun b hlt hk => hb b hlt (h1 b hk)⟩
  · exact .inr (.inl ⟨rfl, κ, h1, h2.carry hs fun b hlt hk => hb b hlt (h1 b hk)⟩)
  · exact .inr (.inr ⟨rfl, tv, h1, h2.carry hs fun b hlt hk => by
      rcases hk with rfl | hk
      · exact h0
      · exact hb b hlt (h1 b hk)⟩)
theorem EngF.below {k : Nat} {F : Nat → Prop} {w w' : World} {gb : Nat} {es : List Ent} (h : EngF k F w gb es) (hp : 0 < w.heap.size) (hb : Below w.heap.size w w') : EngF k F w' gb es := h.carry hb.size (hb.block 0 hp) fun b hlt _ => hb.block b hlt
theorem EngF.mono {k : Nat} {F G : Nat → Prop} {w : World} {gb : Nat} {es : List Ent} (h : EngF k F w gb es) (hF : ∀ b, b < w.heap.size → F b → G b) : EngF k G w gb es := by
  rcases h with ⟨rfl, κ, h1, h2⟩ | ⟨rfl, κ, h1, h2⟩ | ⟨rfl, tv, h1, h2⟩
  · refine .inl ⟨rfl, fun b => if b < w.heap.size then κ b else 0, fun b hb => ?_, h2.conv (Nat.le_refl _) fun b _ hlt => if_pos hlt⟩
    by_cases hlt : b < w.heap.size
    · exact hF b hlt (h1 b (fun h0 => hb ((if_pos hlt).trans h0)))
    · exact absurd (show (if b < w.heap.size then κ b else 0) = 0 from if_neg hlt) hb
  · refine .inr (.inl ⟨rfl, fun b => if b < w.heap.size then κ b else 0, fun b hb => ?_, h2.conv (Nat.le_refl _) fun b _ hlt => if_pos hlt⟩)
    by_cases hlt : b < w.heap.size
    · exact hF b hlt (h1 b (fun h0 => hb ((if_pos hlt).trans h0)))
    · exact absurd (show (if b < w.heap.size then κ b else 0) = 0 from if_neg hlt) hb
  · refine .inr (.inr ⟨rfl, tv, fun b hb => hF b ?_ (h1 b hb), h2⟩)
    rcases hb with rfl | hb
    · exact h2.c.lt
    · exact (h2.t.at hb).2
def newK (k : Nat) : Nat := if k = 1 then 30 else if k = 2 then 31 else 32
def addK (k : Nat) : Nat := if k = 1 then 68 else if k = 2 then 143 else 172
def askK (k : Nat) : Nat := if k = 1 then 69 else if k = 2 then 144 else 173
theorem newF_any {k : Nat} (hk : k = 1 ∨ k = 2 ∨ k = 3) (w : World) (hm : MaxI w) :
    Calls Tryz.prog (newK k) #[] w fun x w' => ∃ gb, x = .returned (.pointer (some ⟨gb, 0, none⟩)) ∧ EngF k (fun b => w.heap.size ≤ b) w' gb [] ∧ Lay w w' := by
  rcases hk with rfl | rfl | rfl
  · refine (new3_any w).mono ?_
    rintro x w' ⟨rfl, h, hl⟩
    obtain ⟨κ, h1, h2⟩ := h.foot
    exact ⟨_, rfl, .inl ⟨rfl, κ, fun b hb => (h2 b hb).1, h1⟩, hl⟩
  · refine (new4_any w).mono ?_
    rintro x w' ⟨rfl, h, hl⟩
    obtain ⟨κ, h1, h2⟩ := h.foot
    exact ⟨_, rfl, .inr (.inl ⟨rfl, κ, fun b hb => (h2 b hb).1, h1⟩), hl⟩
  · refine (new5_any w hm).mono ?_
    rintro x w' ⟨rfl, h, hl⟩
    obtain ⟨tv, h1, h2⟩ := h.foot
    exact ⟨_, rfl, .inr (.inr ⟨rfl, tv, fun b hb => (h2 b hb).1, h1⟩), hl⟩
theorem addF_any {k : Nat} {F H : Nat → Prop} {w : World} {gb : Nat} {es : List Ent} {e : Ent} {lv : Value} (h : EngF k F w gb es) (hl : LabsAt H w lv e.labs) (hH : ∀ b, H b → b < w.heap.size → ¬ F b) (hm : e.Mod) (hline : e.line.size ≤ 1000) (hes : ∀ x ∈ es, x.Mod) (hn : es.length ≤ 1000) :
    Calls Tryz.prog (addK k) #[.pointer (some ⟨gb, 0, none⟩), e.val lv] w fun x w' => x = .returned (.tuple #[]) ∧ EngF k (fun b => F b ∨ w.heap.size ≤ b) w' gb (addE es e) ∧ (∀ b, b < w.heap.size → ¬ F b → w'.heap[b]? = w.heap[b]?) ∧ Below 0 w w' := by
  rcases h with ⟨rfl, κ, h1, h2⟩ | ⟨rfl, κ, h1, h2⟩ | ⟨rfl, tv, h1, h2⟩
  · refine (add3_any h2 (Nat.zero_le _) (hl.mono fun b hb hlt => Classical.byContradiction fun hk => hH b hb hlt (h1 b hk)) hm hline hes hn).mono ?_
    rintro x w' ⟨rfl, ⟨κ', h3, h4, h5⟩, hb⟩
    refine ⟨rfl, .inl ⟨rfl, κ', fun b hk => ?_, h3⟩, fun b hlt hk => h5 b hlt (Classical.byContradiction fun h => hk (h1 b h)), hb⟩
    by_cases hlt : b < w.heap.size
    · exact .inl (h1 b (by rwa [h4 b hlt] at hk))
    · exact .inr (by omega)
  · refine (add4_any h2 (Nat.zero_le _) hl hm hn).mono ?_
    rintro x w' ⟨rfl, ⟨κ', h3, h4, h5⟩, hb⟩
    refine ⟨rfl, .inr (.inl ⟨rfl, κ', fun b hk => ?_, h3⟩), fun b hlt hk => h5 b hlt (Classical.byContradiction fun h => hk (h1 b h)), hb⟩
    by_cases hlt : b < w.heap.size
    · exact .inl (h1 b (by rwa [h4 b hlt] at hk))
    · exact .inr (by omega)
  · refine (add5_any h2 hl (fun b hb hlt => ⟨fun e => hH b hb hlt (h1 b (.inl e)), fun ha => hH b hb hlt (h1 b (.inr ha))⟩) hn).mono ?_
    rintro x w' ⟨rfl, ⟨tv', h3, h4, h5⟩, hb⟩
    refine ⟨rfl, .inr (.inr ⟨rfl, tv', fun b hk => ?_, h3⟩), fun b hlt hk => h5 b hlt (fun e => hk (h1 b (.inl e))) fun ha => hk (h1 b (.inr ha)), hb.mono (Nat.zero_le _)⟩
    rcases hk with hk | hk
    · exact .inl (h1 b (.inl hk))
    · exact (h4 b hk).imp (fun h => h1 b (.inr h)) id
def asksK (k : Nat) (a : Ask) : Ent → Bool := if k = 1 then asksE a.src a.til a.all else if k = 2 then asksM a.src a.til a.mat else inT5 a.src a.til
def AskG (k : Nat) (es : List Ent) (a : Ask) (mo : Option Ent) (desc : Bool) (n : Int) (w : World) (x : Ending) (w' : World) : Prop :=
  Below w.heap.size w w' ∧
  ((¬ a.kd = (k : Int) ∧ x = .returned (.tuple #[.slice none 0 0, .bool false, .int .i64 12])) ∨ (a.kd = (k : Int) ∧ a.good isTx = false ∧ x = .returned (.tuple #[.slice none 0 0, .bool false, .int .i64 1])) ∨
   (a.kd = (k : Int) ∧ a.good isTx = true ∧ ∃ v srt, Sorts (ordC desc) (es.filter (asksK k a)) srt ∧ x = .returned (.tuple #[v, .bool (Md.cut (ordC desc) mo n.toNat srt).2, .int .i64 0]) ∧ EntsAt (fun b => w.heap.size ≤ b) (fun _ => True) w' v (Md.cut (ordC desc) mo n.toNat srt).1))
theorem good_gd {a : Ask} (h : a.kd = 3) : a.good isTx = a.gd := by
  unfold Ask.good Ask.gd timeOK
  rw [if_neg (by omega), if_neg (by omega), Bool.and_true, Bool.eq_iff_iff]
  simp only [Bool.and_eq_true, decide_eq_true_eq]
  unfold Ask.inn
  omega
theorem askF_any {k : Nat} {F : Nat → Prop} {es : List Ent} {a : Ask} {av mv : Value} {has desc : Bool} {m : Ent} {ml : Value} {n : Int} {gb : Nat} {w : World} (h : EngF k F w gb es) (h1 : TextsAt w av a.all) (h2 : MsAt w mv a.mat) (hm : LabsAt (fun _ => True) w ml m.labs)
    (hn : es.length ≤ 1000) (hng : a.great = false) (hlab : ∀ x ∈ es, x.labs.length ≤ 1000000) (hT : a.kd = 2 → a.mat ≠ [] → Lib.Utf8Tabs 1 2 w) :
    Calls Tryz.prog (askK k) #[.pointer (some ⟨gb, 0, none⟩), a.dyn av mv, mkV has m ml, .bool desc, .int .i64 n] w (AskG k es a (mkO has m) desc n w) := by
  rcases h with ⟨rfl, κ, _, h⟩ | ⟨rfl, κ, _, h⟩ | ⟨rfl, tv, _, h⟩
  · exact ask3_any es a av mv has desc m ml n 0 gb w h.at h1 h2 hm hn hng hlab
  · exact ask4_any es a av mv has desc m ml n 0 gb w h.at h1 h2 hm hn hng hlab hT
  · have s1 : ∃ x n c, av = .slice x n c := by obtain ⟨x, c, e, _⟩ := h1; exact ⟨x, _, c, e⟩
    have s2 : ∃ x n c, mv = .slice x n c := by obtain ⟨x, c, e, _⟩ := h2; exact ⟨x, _, c, e⟩
    refine (ask5_any es a av mv has desc m ml n 1 gb w ⟨tv, h⟩ s1 s2 hm hn).mono ?_
    rintro x w' ⟨hb, h⟩
    refine ⟨hb, ?_⟩
    rcases h with h | ⟨h3, h4, h5⟩ | ⟨h3, h4, h5⟩
    · exact .inl h
    · exact .inr (.inl ⟨h3, (good_gd h3).trans h4, h5⟩)
    · exact .inr (.inr ⟨h3, (good_gd h3).trans h4, h5⟩)
end Go.Proofs.YtoobjjpheegmdaaGreat.E4
namespace Go.Proofs.YtoobjjpheegmdaaGreat.E4
open Go.RowKit Go
def tyK (k : Nat) : TypeId := if k = 1 then 79 else if k = 2 then 81 else 83
def engV (k : Nat) : Option Nat → Value
  | none => .nilIface
  | some b => .iface (tyK k) (.pointer (some ⟨b, 0, none⟩))
theorem engV_one (k : Nat) (o : Option Nat) : (engV k o).oneCell' = true := by cases o <;> rfl
structure Rep where
  k : Nat
  ep : Nat
  eb : Option Nat
def repC (r : Rep) : List Value := [.int .i64 r.k, .int .i64 r.ep, engV r.k r.eb]
def flatP : List Rep → List Value
  | [] => []
  | r :: P => repC r ++ flatP P
theorem flatP_length : ∀ P : List Rep, (flatP P).length = P.length * 3
  | [] => rfl
  | r :: P => by rw [flatP, List.length_append, flatP_length P, List.length_cons, Nat.succ_mul, Nat.add_comm]; rfl
theorem flatP_append : ∀ P Q : List Rep, flatP (P ++ Q) = flatP P ++ flatP Q
  | [], _ => rfl
  | r :: P, Q => by simp only [List.cons_append, flatP, flatP_append P Q, List.append_assoc]
theorem flatP_get : ∀ (P : List Rep) (i : Nat) (h : i < P.length) (c : Nat), c < 3 → (flatP P)[i * 3 + c]? = (repC P[i])[c]?
  | [], i, h, _, _ => by simp at h
  | x :: r, 0, _, c, hc => by
    simp only [flatP, Nat.zero_mul, Nat.zero_add, List.getElem_cons_zero]
    rw [List.getElem?_append_left (by simp [repC]; omega)]
  | x :: r, i + 1, h, c, hc => by
    simp only [flatP, List.getElem_cons_succ]
    rw [List.getElem?_append_right (by simp [repC]; omega), ← flatP_get r i (by simpa using h) c hc]
    congr 1
    simp [repC]
    omega
theorem flatP_eng : ∀ (P : List Rep) (i : Nat) (h : i < P.length) (o : Option Nat), flatP (P.set i { P[i] with eb := o }) = (flatP P).set (i * 3 + 2) (engV P[i].k o)
  | [], i, h, _ => by simp at h
  | x :: r, 0, _, o => by simp [flatP, repC]
  | x :: r, i + 1, h, o => by
    have h' : i < r.length := by simpa using h
    have ih := flatP_eng r i h' o
    have e : (i + 1) * 3 + 2 = i * 3 + 2 + 3 := by omega
    simp only [List.set_cons_succ, flatP, List.getElem_cons_succ, ih, e]
    rfl
theorem flatP_ep : ∀ (P : List Rep) (i : Nat) (h : i < P.length) (n : Nat), flatP (P.set i { P[i] with ep := n }) = (flatP P).set (i * 3 + 1) (.int .i64 n)
  | [], i, h, _ => by simp at h
  | x :: r, 0, _, n => by simp [flatP, repC]
  | x :: r, i + 1, h, n => by
    have h' : i < r.length := by simpa using h
    have ih := flatP_ep r i h' n
    have e : (i + 1) * 3 + 1 = i * 3 + 1 + 3 := by omega
    simp only [List.set_cons_succ, flatP, List.getElem_cons_succ, ih, e]
    rfl
theorem Rk.setK {k : Nat} {G : Nat → Prop} {w : World} {g n cap : Nat} {xs : List Value} (h : Rk k G w (.slice (Option.some ⟨g, 0, Option.none⟩) n cap) n xs) (i : Nat) (hi : i < xs.length) (u : Value) : Rk k G (w.setCell ⟨g, i, Option.none⟩ u) (.slice (Option.some ⟨g, 0, Option.none⟩) n cap) n (xs.set i u) := by
  obtain ⟨h0, ⟨h, _⟩ | ⟨g', cap', he, hG, hlt, hn, hm, hc, hf⟩⟩ := h
  · cases h
  · obtain ⟨rfl, rfl⟩ : g' = g ∧ cap' = cap := by simpa [eq_comm] using he
    have hik : i < cap' * k := Nat.lt_of_lt_of_le (by rwa [h0] at hi) (Nat.mul_le_mul_right k hn)
    have hsome := hf i hik
    refine ⟨by rw [List.length_set]; exact h0, .inr ⟨g', cap', rfl, hG, by simpa [World.setCell] using hlt, hn, hm, fun j hj => ?_, fun j hj => ?_⟩⟩
    · rw [List.length_set] at hj
      by_cases e : i = j
      · subst e
        rw [List.getElem?_set_self hj]
        have hs := hsome.1
        go_simp
      · rw [List.getElem?_set_ne e, ← hc j hj]
        go_simp
    · have := hf j hj
      refine ⟨?_, (World.frozen?_setCell _ _ _ _).trans this.2⟩
      by_cases e : i = j
      · subst e
        have hs := this.1
        go_simp
      · have hs := this.1
        go_simp
theorem Rk.rep {G : Nat → Prop} {w : World} {v : Value} {P : List Rep} (h : Rk 3 G w v P.length (flatP P)) {i : Nat} (hi : i < P.length) :
    ∃ q c, v = .slice (Option.some ⟨q, 0, Option.none⟩) P.length c ∧ G q ∧ q < w.heap.size ∧ w.cell? ⟨q, i * 3, Option.none⟩ = Option.some (.int .i64 (P[i].k : Int)) ∧ w.cell? ⟨q, i * 3 + 1, Option.none⟩ = Option.some (.int .i64 (P[i].ep : Int)) ∧ w.cell? ⟨q, i * 3 + 2, Option.none⟩ = Option.some (engV P[i].k P[i].eb) ∧
      w.frozen? ⟨q, i * 3 + 1, Option.none⟩ = false ∧ w.frozen? ⟨q, i * 3 + 2, Option.none⟩ = false := by
  obtain ⟨hl, ⟨_, h0⟩ | ⟨q, c, hv, hg, hlt, hn, hm, hc, hf⟩⟩ := h
  · omega
  · have hx : ∀ k, k < 3 → w.cell? ⟨q, i * 3 + k, Option.none⟩ = (repC P[i])[k]? := fun k hk => (hc _ (by omega)).trans (flatP_get P i hi k hk)
    refine ⟨q, c, hv, hg, hlt, hx 0 (by omega), hx 1 (by omega), hx 2 (by omega), (hf _ (by omega)).2, (hf _ (by omega)).2⟩
set_option maxRecDepth 100000 in
theorem at_no {w : World} {g n c : Nat} {lv : Value} {a : Option Addr} (h : Bl w g 67 #[lv, .slice a n c]) {i : Int} (hi : ¬ (0 ≤ i ∧ i < n)) : Calls Tryz.prog 27 #[.pointer (some ⟨g, 0, none⟩), .int .i64 i] w fun x w' => x = .returned (.pointer none) ∧ w' = w := by
  have c1 := h.cell 1
  simp only [List.getElem?_toArray, List.getElem?_cons_succ, List.getElem?_cons_zero] at c1
  clear h
  by_cases h0 : i < 0
  · go_enter Tryz.func27, Tryz.ntmps27
    go_wp2_with fail
    go_ret
    exact ⟨rfl, rfl⟩
  · have h1 : (n : Int) ≤ i := by omega
    clear hi
    go_enter Tryz.func27, Tryz.ntmps27
    go_wp2_with fail
    go_ret
    exact ⟨rfl, rfl⟩
set_option maxRecDepth 100000 in
theorem at_yes {w : World} {g n c q : Nat} {lv : Value} (h : Bl w g 67 #[lv, .slice (some ⟨q, 0, none⟩) n c]) {j : Nat} (hj : j < n) (hn : n ≤ 3) : Calls Tryz.prog 27 #[.pointer (some ⟨g, 0, none⟩), .int .i64 (j : Int)] w fun x w' => x = .returned (.pointer (some ⟨q, j * 3, none⟩)) ∧ w' = w := by
  have c1 := h.cell 1
  simp only [List.getElem?_toArray, List.getElem?_cons_succ, List.getElem?_cons_zero] at c1
  clear h
  go_enter Tryz.func27, Tryz.ntmps27
  go_wp2_with fail
  go_ret
  exact ⟨rfl, rfl⟩
theorem upR_run (k : Nat) (o : Option Nat) (w : World) : (binOp .neq 53 (engV k o) .nilIface).run Tryz.prog w = .ok (.bool o.isSome) w := by
  cases o <;> (unfold engV; go_simp)
theorem upR_guard (k : Nat) (o : Option Nat) (x : Operand) (v : Value) : eqGuard .neq 53 x (.const v) (engV k o) .nilIface = pure () := by
  cases o
  · simp [eqGuard, engV]
  · rfl
set_option maxRecDepth 100000 in
theorem upR_any {w : World} {q n k : Nat} {o : Option Nat} (h : w.cell? ⟨q, n + 2, none⟩ = some (engV k o)) : Calls Tryz.prog 26 #[.pointer (some ⟨q, n, none⟩)] w fun x w' => x = .returned (.bool o.isSome) ∧ w' = w := by
  have h1 := upR_run k o w
  have h2 : ∀ x v, eqGuard .neq 53 x (.const v) (engV k o) .nilIface = pure () := upR_guard k o
  generalize engV k o = ev at h h1 h2
  go_enter Tryz.func26, Tryz.ntmps26
  go_wp2_with fail
  go_ret
  exact ⟨rfl, rfl⟩
set_option maxRecDepth 100000 in
theorem upR_nil (w : World) : Calls Tryz.prog 26 #[.pointer none] w fun x w' => x = .returned (.bool false) ∧ w' = w := by
  go_enter Tryz.func26, Tryz.ntmps26
  go_wp2_with fail
  go_ret
  exact ⟨rfl, rfl⟩
set_option maxRecDepth 100000 in
theorem gSize_any {w : World} {g n c : Nat} {lv : Value} {a : Option Addr} (h : Bl w g 67 #[lv, .slice a n c]) : Calls Tryz.prog 21 #[.pointer (some ⟨g, 0, none⟩)] w fun x w' => x = .returned (.int .i64 n) ∧ w' = w := by
  have c1 := h.cell 1
  simp only [List.getElem?_toArray, List.getElem?_cons_succ, List.getElem?_cons_zero] at c1
  clear h
  go_enter Tryz.func21, Tryz.ntmps21
  go_wp2_with fail
  go_ret
  exact ⟨rfl, rfl⟩
end Go.Proofs.YtoobjjpheegmdaaGreat.E4
namespace Go.Proofs.YtoobjjpheegmdaaGreat.E4
open Go.RowKit Go
theorem enter_add {k : Nat} (hk : k = 1 ∨ k = 2 ∨ k = 3) (args : Array Value) (W : World) : (callFunc (addK k) args).run Tryz.prog W = .ok (.enter (addK k) args) W := by
  rcases hk with rfl | rfl | rfl <;> kernel_rfl
theorem enter_ask {k : Nat} (hk : k = 1 ∨ k = 2 ∨ k = 3) (args : Array Value) (W : World) : (callFunc (askK k) args).run Tryz.prog W = .ok (.enter (askK k) args) W := by
  rcases hk with rfl | rfl | rfl <;> kernel_rfl
theorem inv_add {k : Nat} (hk : k = 1 ∨ k = 2 ∨ k = 3) (v : Value) (fuel : Nat) (W : World) : (method (fuel + 1) (tyK k) v "Add").run Tryz.prog W = .ok (addK k, v) W := by
  rcases hk with rfl | rfl | rfl <;> kernel_rfl
theorem inv_ask {k : Nat} (hk : k = 1 ∨ k = 2 ∨ k = 3) (v : Value) (fuel : Nat) (W : World) : (method (fuel + 1) (tyK k) v "Ask").run Tryz.prog W = .ok (askK k, v) W := by
  rcases hk with rfl | rfl | rfl <;> kernel_rfl
structure GC (ρ : Nat → Nat) (E : Nat → List Ent) (w : World) (g : Nat) (log : List Ent) (P : List Rep) (lv rv : Value) (R : List (Value × Ent)) : Prop where
  c : Bl w g 67 #[lv, rv]
  g : ρ g = 1
  z : ρ 0 = 0
  l : Rk 3 (fun b => ρ b = 2) w lv R.length (flatR R)
  rl : RawL (fun b => ρ b = 3) w R
  e : R.map Prod.snd = log
  r : Rk 3 (fun b => ρ b = 4) w rv P.length (flatP P)
  n : P.length ≤ 3
  k : ∀ x ∈ P, x.k = 1 ∨ x.k = 2 ∨ x.k = 3
  en : ∀ i (h : i < P.length) b, P[i].eb = some b → EngF P[i].k (fun q => ρ q = 5 + i) w b (E i)
  ok : ∀ x ∈ log, x.ok = true
  hl : log.length ≤ 100
  mx : MaxI w
def GAt (ρ : Nat → Nat) (w : World) (g : Nat) (log : List Ent) (P : List Rep) : Prop := ∃ lv rv R, GC ρ (fun _ => addAll [] log) w g log P lv rv R
theorem GC.pos {ρ : Nat → Nat} {E : Nat → List Ent} {w : World} {g : Nat} {log : List Ent} {P : List Rep} {lv rv : Value} {R : List (Value × Ent)} (h : GC ρ E w g log P lv rv R) : 0 < w.heap.size := h.mx.pos
theorem GC.carry {ρ : Nat → Nat} {E : Nat → List Ent} {w w' : World} {g : Nat} {log : List Ent} {P : List Rep} {lv rv : Value} {R : List (Value × Ent)} (h : GC ρ E w g log P lv rv R) (hs : w.heap.size ≤ w'.heap.size) (hb : ∀ b, b < w.heap.size → ρ b ≠ 0 ∨ b = 0 → w'.heap[b]? = w.heap[b]?) : GC ρ E w' g log P lv rv R :=
  ⟨(hb _ h.c.lt (.inl (by rw [h.g]; decide))).trans h.c, h.g, h.z, h.l.carry hs fun b hg _ hlt => hb b hlt (.inl (by rw [hg]; decide)), fun x hx => (h.rl x hx).carry hs fun b hg hlt => hb b hlt (.inl (by rw [hg]; decide)), h.e,
    h.r.carry hs fun b hg _ hlt => hb b hlt (.inl (by rw [hg]; decide)), h.n, h.k, fun i hi b hbq => (h.en i hi b hbq).carry hs (hb 0 h.pos (.inr rfl)) fun q hlt hq => hb q hlt (.inl (by rw [hq]; omega)), h.ok, h.hl, h.mx.carry (hb 0 h.pos (.inr rfl))⟩
theorem GC.below {ρ : Nat → Nat} {E : Nat → List Ent} {w w' : World} {g : Nat} {log : List Ent} {P : List Rep} {lv rv : Value} {R : List (Value × Ent)} (h : GC ρ E w g log P lv rv R) (hb : Below w.heap.size w w') : GC ρ E w' g log P lv rv R := h.carry hb.size fun b hlt _ => hb.block b hlt
theorem GC.conv {ρ ρ' : Nat → Nat} {E : Nat → List Ent} {w : World} {g : Nat} {log : List Ent} {P : List Rep} {lv rv : Value} {R : List (Value × Ent)} (h : GC ρ E w g log P lv rv R) (hk : ∀ b, b < w.heap.size → ρ' b = ρ b) : GC ρ' E w g log P lv rv R :=
  ⟨h.c, (hk _ h.c.lt).trans h.g, (hk _ h.pos).trans h.z, h.l.mono fun b hg ha => (hk b (h.l.at ha).2).trans hg, h.rl.mono fun b hg hlt => (hk b hlt).trans hg, h.e, h.r.mono fun b hg ha => (hk b (h.r.at ha).2).trans hg, h.n, h.k,
    fun i hi b hbq => (h.en i hi b hbq).mono fun q hlt hq => (hk q hlt).trans hq, h.ok, h.hl, h.mx⟩
theorem GAt.carry {ρ : Nat → Nat} {w w' : World} {g : Nat} {log : List Ent} {P : List Rep} (h : GAt ρ w g log P) (hs : w.heap.size ≤ w'.heap.size) (hb : ∀ b, b < w.heap.size → ρ b ≠ 0 ∨ b = 0 → w'.heap[b]? = w.heap[b]?) : GAt ρ w' g log P := by
  obtain ⟨lv, rv, R, h⟩ := h
  exact ⟨lv, rv, R, h.carry hs hb⟩
theorem GAt.below {ρ : Nat → Nat} {w w' : World} {g : Nat} {log : List Ent} {P : List Rep} (h : GAt ρ w g log P) (hb : Below w.heap.size w w') : GAt ρ w' g log P := h.carry hb.size fun b hlt _ => hb.block b hlt
structure Turns (ρ ρ' : Nat → Nat) (w w' : World) : Prop where
  ag : ∀ b, b < w.heap.size → ρ' b = ρ b
  hold : ∀ b, b < w.heap.size → ρ b = 0 → w'.heap[b]? = w.heap[b]?
  bel : Below 0 w w'
theorem Turns.of {ρ : Nat → Nat} {w w' : World} (h : Below w.heap.size w w') : Turns ρ ρ w w' := ⟨fun _ _ => rfl, fun b hb _ => h.block b hb, h.mono (Nat.zero_le _)⟩
theorem Turns.trans {ρ ρ' ρ2 : Nat → Nat} {w w' w2 : World} (h : Turns ρ ρ' w w') (k : Turns ρ' ρ2 w' w2) : Turns ρ ρ2 w w2 :=
  ⟨fun b hb => (k.ag b (Nat.lt_of_lt_of_le hb h.bel.size)).trans (h.ag b hb), fun b hb h0 => (k.hold b (Nat.lt_of_lt_of_le hb h.bel.size) ((h.ag b hb).trans h0)).trans (h.hold b hb h0), h.bel.trans k.bel⟩
theorem Turns.below {ρ ρ' : Nat → Nat} {w w' : World} (h : Turns ρ ρ' w w') {B : Nat} (hB : B ≤ w.heap.size) (hz : ∀ b, b < B → ρ b = 0) : Below B w w' :=
  ⟨h.bel.os, h.bel.tape, h.bel.output, h.bel.size, fun b hb => h.hold b (Nat.lt_of_lt_of_le hb hB) (hz b hb)⟩
theorem below_of_keep0 {H : Nat → Prop} {w w' : World} (h : Keep H w w') : Below 0 w w' := ⟨h.os, h.tape, h.output, h.size, fun _ hb => by omega⟩
def repAt (P : List Rep) (i : Int) : Option Rep := if 0 ≤ i then P[i.toNat]? else none
theorem repAt_none {P : List Rep} {i : Int} (h : repAt P i = none) : ¬ (0 ≤ i ∧ i < P.length) := by
  rintro ⟨h0, h1⟩
  unfold repAt at h
  rw [if_pos h0, List.getElem?_eq_none_iff] at h
  omega
theorem repAt_some {P : List Rep} {i : Int} {r : Rep} (h : repAt P i = some r) : ∃ (j : Nat) (hj : j < P.length), i = (j : Int) ∧ P[j] = r := by
  unfold repAt at h
  split at h
  · rename_i h0
    obtain ⟨hj, e⟩ := List.getElem?_eq_some_iff.1 h
    exact ⟨i.toNat, hj, by omega, e⟩
  · cases h
theorem repAt_nat (P : List Rep) (j : Nat) : repAt P (j : Int) = P[j]? := by unfold repAt; rw [if_pos (by omega), Int.toNat_natCast]
def epochOf (P : List Rep) (i : Int) : Int := (repAt P i).elim 0 fun r => (r.ep : Int)
def upOf (P : List Rep) (i : Int) : Bool := (repAt P i).any fun r => r.eb.isSome
set_option maxRecDepth 100000 in
theorem gEpoch_any {ρ : Nat → Nat} {E : Nat → List Ent} {w : World} {g : Nat} {log : List Ent} {P : List Rep} {lv rv : Value} {R : List (Value × Ent)} (h : GC ρ E w g log P lv rv R) (i : Int) :
    Calls Tryz.prog 20 #[.pointer (some ⟨g, 0, none⟩), .int .i64 i] w fun x w' => x = .returned (.int .i64 (epochOf P i)) ∧ w' = w := by
  obtain ⟨a, c, rfl⟩ := h.r.shape
  unfold epochOf
  cases hr : repAt P i with
  | none =>
    have HA := Lib.hid (at_no h.c (repAt_none hr))
    clear h hr
    go_enter Tryz.func20, Tryz.ntmps20
    go_wp2_with (go_at_call 27; refine HA.out.mono ?_; rintro x w2 ⟨rfl, rfl⟩)
    go_ret
    exact ⟨rfl, rfl⟩
  | some r =>
    obtain ⟨j, hj, rfl, rfl⟩ := repAt_some hr
    obtain ⟨q, c', hv, -, -, -, x1, -⟩ := h.r.rep hj
    simp only [Value.slice.injEq, true_and] at hv
    obtain ⟨rfl, rfl⟩ := hv
    have HA := Lib.hid (at_yes h.c hj h.n)
    clear h hr
    go_enter Tryz.func20, Tryz.ntmps20
    go_wp2_with (go_at_call 27; refine HA.out.mono ?_; rintro x w2 ⟨rfl, rfl⟩)
    go_ret
    exact ⟨rfl, rfl⟩
set_option maxRecDepth 100000 in
theorem gUp_any {ρ : Nat → Nat} {E : Nat → List Ent} {w : World} {g : Nat} {log : List Ent} {P : List Rep} {lv rv : Value} {R : List (Value × Ent)} (h : GC ρ E w g log P lv rv R) (i : Int) :
    Calls Tryz.prog 16 #[.pointer (some ⟨g, 0, none⟩), .int .i64 i] w fun x w' => x = .returned (.bool (upOf P i)) ∧ w' = w := by
  obtain ⟨a, c, rfl⟩ := h.r.shape
  unfold upOf
  cases hr : repAt P i with
  | none =>
    have HA := Lib.hid (at_no h.c (repAt_none hr))
    have HU := Lib.hid (upR_nil w)
    clear h hr
    go_enter Tryz.func16, Tryz.ntmps16
    go_upto_region 1 with fail
    go_wp2_with fail
    refine HA.out.mono ?_
    rintro x w2 ⟨rfl, rfl⟩
    go_wp2_with (go_at_call 26; refine HU.out.mono ?_; rintro x w2 ⟨rfl, rfl⟩)
    go_ret
    exact ⟨rfl, rfl⟩
  | some r =>
    obtain ⟨j, hj, rfl, rfl⟩ := repAt_some hr
    obtain ⟨q, c', hv, -, -, -, -, x2, -⟩ := h.r.rep hj
    simp only [Value.slice.injEq, true_and] at hv
    obtain ⟨rfl, rfl⟩ := hv
    have HA := Lib.hid (at_yes h.c hj h.n)
    have HU := Lib.hid (upR_any x2)
    clear h hr x2
    go_enter Tryz.func16, Tryz.ntmps16
    go_upto_region 1 with fail
    go_wp2_with fail
    refine HA.out.mono ?_
    rintro x w2 ⟨rfl, rfl⟩
    go_wp2_with (go_at_call 26; refine HU.out.mono ?_; rintro x w2 ⟨rfl, rfl⟩)
    go_ret
    exact ⟨rfl, rfl⟩
def crashP (P : List Rep) (i : Int) : List Rep × Int := match repAt P i with
  | none => (P, 11)
  | some r => if r.eb.isSome then (P.set i.toNat { r with eb := none }, 0) else (P, 10)
theorem GC.seteb {ρ : Nat → Nat} {E : Nat → List Ent} {w : World} {g : Nat} {log : List Ent} {P : List Rep} {lv : Value} {q c : Nat} {R : List (Value × Ent)} (h : GC ρ E w g log P lv (.slice (some ⟨q, 0, none⟩) P.length c) R) {j : Nat} (hj : j < P.length) (o : Option Nat) (ho : ∀ b, o = some b → EngF P[j].k (fun q => ρ q = 5 + j) w b (E j)) :
    GC ρ E (w.setCell ⟨q, j * 3 + 2, none⟩ (engV P[j].k o)) g log (P.set j { P[j] with eb := o }) lv (.slice (some ⟨q, 0, none⟩) P.length c) R ∧ Keep (fun b => ρ b = 4) w (w.setCell ⟨q, j * 3 + 2, none⟩ (engV P[j].k o)) := by
  have hq : ρ q = 4 := by
    obtain ⟨q', c', hv, hg, _⟩ := h.r.rep hj
    simp only [Value.slice.injEq, true_and, Option.some.injEq, Addr.mk.injEq, and_true] at hv
    rw [hv.1]
    exact hg
  have hk : Keep (fun b => ρ b = 4) w (w.setCell ⟨q, j * 3 + 2, none⟩ (engV P[j].k o)) := (keep_set12 (Keep.refl (fun b => b = q) w) _ _).into fun b _ h => by rw [h]; exact hq
  have hr := h.r.setK (j * 3 + 2) (by rw [flatP_length]; omega) (engV P[j].k o)
  rw [← flatP_eng P j hj o] at hr
  have hz := h.z
  refine ⟨⟨(hk.block g h.c.lt (by show ¬ ρ g = 4; rw [h.g]; decide)).trans h.c, h.g, h.z, h.l.keep hk (fun b hb _ _ h2 => by omega), h.rl.keep hk (fun b hb _ h2 => by omega), h.e, ?_, ?_, fun x hx => ?_, fun i hi b hb => ?_, h.ok, h.hl, h.mx.carry (hk.block 0 h.pos (by show ¬ ρ 0 = 4; omega))⟩, hk⟩
  · rw [List.length_set]; exact hr
  · rw [List.length_set]; exact h.n
  · rcases List.mem_or_eq_of_mem_set hx with hx | rfl
    · exact h.k x hx
    · exact h.k P[j] (List.getElem_mem hj)
  · have hi' : i < P.length := by simpa using hi
    have hcar : ∀ (k b : Nat) (es : List Ent), EngF k (fun q => ρ q = 5 + i) w b es → EngF k (fun q => ρ q = 5 + i) (w.setCell ⟨q, j * 3 + 2, none⟩ (engV P[j].k o)) b es := fun k b es hE => hE.carry hk.size (hk.block 0 h.pos (by show ¬ ρ 0 = 4; omega)) fun q hlt hq => hk.block q hlt (by show ¬ ρ q = 4; omega)
    by_cases e : j = i
    · subst e
      rw [List.getElem_set_self] at hb ⊢
      exact hcar _ _ _ (ho b hb)
    · rw [List.getElem_set_ne e] at hb ⊢
      exact hcar _ _ _ (h.en i hi' b hb)
theorem GC.down {ρ : Nat → Nat} {E : Nat → List Ent} {w : World} {g : Nat} {log : List Ent} {P : List Rep} {lv : Value} {q c : Nat} {R : List (Value × Ent)} (h : GC ρ E w g log P lv (.slice (some ⟨q, 0, none⟩) P.length c) R) {j : Nat} (hj : j < P.length) :
    GC ρ E (w.setCell ⟨q, j * 3 + 2, none⟩ .nilIface) g log (P.set j { P[j] with eb := none }) lv (.slice (some ⟨q, 0, none⟩) P.length c) R ∧ Keep (fun b => ρ b = 4) w (w.setCell ⟨q, j * 3 + 2, none⟩ .nilIface) := h.seteb hj none fun _ h => by cases h
theorem GC.setep {ρ : Nat → Nat} {E : Nat → List Ent} {w : World} {g : Nat} {log : List Ent} {P : List Rep} {lv : Value} {q c : Nat} {R : List (Value × Ent)} (h : GC ρ E w g log P lv (.slice (some ⟨q, 0, none⟩) P.length c) R) {j : Nat} (hj : j < P.length) (n : Nat) :
    GC ρ E (w.setCell ⟨q, j * 3 + 1, none⟩ (.int .i64 n)) g log (P.set j { P[j] with ep := n }) lv (.slice (some ⟨q, 0, none⟩) P.length c) R ∧ Keep (fun b => ρ b = 4) w (w.setCell ⟨q, j * 3 + 1, none⟩ (.int .i64 n)) := by
  have hq : ρ q = 4 := by
    obtain ⟨q', c', hv, hg, _⟩ := h.r.rep hj
    simp only [Value.slice.injEq, true_and, Option.some.injEq, Addr.mk.injEq, and_true] at hv
    rw [hv.1]
    exact hg
  have hk : Keep (fun b => ρ b = 4) w (w.setCell ⟨q, j * 3 + 1, none⟩ (.int .i64 n)) := (keep_set12 (Keep.refl (fun b => b = q) w) _ _).into fun b _ h => by rw [h]; exact hq
  have hr := h.r.setK (j * 3 + 1) (by rw [flatP_length]; omega) (.int .i64 n)
  rw [← flatP_ep P j hj n] at hr
  have hz := h.z
  refine ⟨⟨(hk.block g h.c.lt (by show ¬ ρ g = 4; rw [h.g]; decide)).trans h.c, h.g, h.z, h.l.keep hk (fun b hb _ _ h2 => by omega), h.rl.keep hk (fun b hb _ h2 => by omega), h.e, ?_, ?_, fun x hx => ?_, fun i hi b hb => ?_, h.ok, h.hl, h.mx.carry (hk.block 0 h.pos (by show ¬ ρ 0 = 4; omega))⟩, hk⟩
  · rw [List.length_set]; exact hr
  · rw [List.length_set]; exact h.n
  · rcases List.mem_or_eq_of_mem_set hx with hx | rfl
    · exact h.k x hx
    · exact h.k P[j] (List.getElem_mem hj)
  · have hi' : i < P.length := by simpa using hi
    have hcar : ∀ (k b : Nat) (es : List Ent), EngF k (fun q => ρ q = 5 + i) w b es → EngF k (fun q => ρ q = 5 + i) (w.setCell ⟨q, j * 3 + 1, none⟩ (.int .i64 n)) b es := fun k b es hE => hE.carry hk.size (hk.block 0 h.pos (by show ¬ ρ 0 = 4; omega)) fun q hlt hq => hk.block q hlt (by show ¬ ρ q = 4; omega)
    by_cases e : j = i
    · subst e
      rw [List.getElem_set_self] at hb ⊢
      exact hcar _ _ _ (h.en _ hi' b hb)
    · rw [List.getElem_set_ne e] at hb ⊢
      exact hcar _ _ _ (h.en i hi' b hb)
set_option maxRecDepth 100000 in
theorem gCrash_any {ρ : Nat → Nat} {w : World} {g : Nat} {log : List Ent} {P : List Rep} (h : GAt ρ w g log P) (i : Int) :
    Calls Tryz.prog 10 #[.pointer (some ⟨g, 0, none⟩), .int .i64 i] w fun x w' => x = .returned (.int .i64 (crashP P i).2) ∧ GAt ρ w' g log (crashP P i).1 ∧ Turns ρ ρ w w' := by
  have HH := Lib.hid h
  obtain ⟨lv, rv, R, h⟩ := h
  obtain ⟨a, c, rfl⟩ := h.r.shape
  unfold crashP
  cases hr : repAt P i with
  | none =>
    have HA := Lib.hid (at_no h.c (repAt_none hr))
    clear h hr
    go_enter Tryz.func10, Tryz.ntmps10
    go_wp2_with (go_at_call 27; refine HA.out.mono ?_; rintro x w2 ⟨rfl, rfl⟩)
    go_ret
    exact ⟨rfl, HH.out, Turns.of (Below.refl _ _)⟩
  | some r =>
    obtain ⟨j, hj, rfl, rfl⟩ := repAt_some hr
    obtain ⟨q, c', hv, hq, hqlt, -, -, x2, -, f2⟩ := h.r.rep hj
    simp only [Value.slice.injEq, true_and] at hv
    obtain ⟨rfl, rfl⟩ := hv
    have HA := Lib.hid (at_yes h.c hj h.n)
    have HU := Lib.hid (upR_any x2)
    cases he : P[j].eb with
    | none =>
      rw [he] at HU
      simp only [he, Option.isSome_none, Bool.false_eq_true, if_false]
      clear h hr x2 f2 he
      go_enter Tryz.func10, Tryz.ntmps10
      go_wp2_with (first | (go_at_call 27; refine HA.out.mono ?_; rintro x w2 ⟨rfl, rfl⟩) | (go_at_call 26; refine HU.out.mono ?_; rintro x w2 ⟨rfl, rfl⟩))
      go_ret
      exact ⟨rfl, HH.out, Turns.of (Below.refl _ _)⟩
    | some eb =>
      rw [he] at HU x2
      obtain ⟨hd, hk⟩ := h.down hj
      have HD := Lib.hid hd
      have HK : Hid (Turns ρ ρ w (w.setCell ⟨q, j * 3 + 2, none⟩ .nilIface)) := Lib.hid ⟨fun _ _ => rfl, fun b hb h0 => hk.block b hb (by show ¬ ρ b = 4; omega), below_of_keep0 hk⟩
      simp only [he, Option.isSome_some, if_true, Int.toNat_natCast]
      clear h hr hd hk he
      go_enter Tryz.func10, Tryz.ntmps10
      go_wp2_with (first | (go_at_call 27; refine HA.out.mono ?_; rintro x w2 ⟨rfl, rfl⟩) | (go_at_call 26; refine HU.out.mono ?_; rintro x w2 ⟨rfl, rfl⟩))
      go_ret
      exact ⟨rfl, ⟨_, _, _, HD.out⟩, HK.out⟩
end Go.Proofs.YtoobjjpheegmdaaGreat.E4
