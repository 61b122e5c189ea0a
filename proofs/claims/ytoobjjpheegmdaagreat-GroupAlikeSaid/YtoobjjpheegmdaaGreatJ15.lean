/-
  Pw13.
-/
import Derived.Test.YtoobjjpheegmdaaGreatJ12
import Derived.Test.YtoobjjpheegmdaaGreatJ14
import Derived.TacticsInMore
import Derived.OwnWalkIn
import Derived.BigRegionIn
namespace Go.Proofs.YtoobjjpheegmdaaGreat.E4
open Go.RowKit Go
open Go.Sort (grow)
attribute [local go_sem] Oper.semAt_some H3.wide_fn H3.wide_depth
def putF (F : ByteArray → List Nat) (at_ : Nat) (pre : List ByteArray) (s : ByteArray) : List Nat := F s ++ if (pre.any fun x => decide (x = s)) = true then [at_] else []
theorem putF_nil (F : ByteArray → List Nat) (at_ : Nat) : putF F at_ [] = F := by funext s; simp [putF]
theorem any_snoc (pre : List ByteArray) (x s : ByteArray) : ((pre ++ [x]).any fun y => decide (y = s)) = ((pre.any fun y => decide (y = s)) || decide (x = s)) := by simp
theorem putF_had {F : ByteArray → List Nat} {at_ : Nat} {pre : List ByteArray} {x : ByteArray} (h : (pre.any fun y => decide (y = x)) = true) : putF F at_ (pre ++ [x]) = putF F at_ pre := by
  funext s
  unfold putF
  rw [any_snoc]
  by_cases e : x = s
  · subst e
    rw [h]; rfl
  · rw [decide_eq_false e, Bool.or_false]
theorem putF_new {F : ByteArray → List Nat} {at_ : Nat} {pre : List ByteArray} {x : ByteArray} (h : (pre.any fun y => decide (y = x)) = false) (s : ByteArray) : putF F at_ (pre ++ [x]) s = if s = x then putF F at_ pre x ++ [at_] else putF F at_ pre s := by
  unfold putF
  rw [any_snoc]
  by_cases e : s = x
  · subst e
    rw [h]; simp
  · rw [decide_eq_false (fun h1 => e h1.symm), Bool.or_false, if_neg e]
theorem putF_len (F : ByteArray → List Nat) (at_ : Nat) (pre : List ByteArray) (s : ByteArray) : (putF F at_ pre s).length ≤ (F s).length + 1 := by
  unfold putF
  split <;> simp
theorem putF_none {F : ByteArray → List Nat} {at_ : Nat} {pre : List ByteArray} {x : ByteArray} (h : (putF F at_ pre x).length = 0) : (pre.any fun y => decide (y = x)) = false := by
  unfold putF at h
  cases e : (pre.any fun y => decide (y = x)) with
  | false => rfl
  | true => rw [e] at h; simp at h
theorem putF_last {F : ByteArray → List Nat} {at_ : Nat} {pre : List ByteArray} {x : ByteArray} (hF : ∀ p ∈ F x, p < at_) {k : Nat} (hk : (putF F at_ pre x).length = k + 1) (h : k < (putF F at_ pre x).length) : (putF F at_ pre x)[k] = at_ ↔ (pre.any fun y => decide (y = x)) = true := by
  revert hk h
  unfold putF
  cases e : (pre.any fun y => decide (y = x)) with
  | true =>
    simp only [if_true]
    intro hk h
    rw [List.length_append, List.length_singleton] at hk
    obtain rfl : k = (F x).length := by omega
    simp
  | false =>
    simp only [Bool.false_eq_true, if_false, List.append_nil, iff_false]
    intro hk h
    have := hF _ (List.getElem_mem h)
    omega
theorem pc_size (s : ByteArray) (p : Nat × Nat) : (H3.pc s p).size ≤ s.size := by
  have h1 : (H3.pc s p).size = (H3.M.piece s.data.toList p).length := by
    show (H3.M.piece s.data.toList p).toArray.size = _
    simp
  have h2 : (H3.M.piece s.data.toList p).length ≤ s.data.toList.length := by
    unfold H3.M.piece
    rw [List.length_drop, List.length_take]
    omega
  rw [h1]
  exact Nat.le_trans h2 (Nat.le_of_eq (Lib.size_eq s).symm)
def PwJ (A gb pb n at_ : Nat) (v mk : Value) (F : ByteArray → List Nat) (pre : List ByteArray) : H3.Stance := fun G W =>
  ∃ f m, m ≤ n + pre.length ∧ H3.Box W A 79 (.pointer (some ⟨gb, 0, none⟩)) ∧ H3.Box W (A + 1) 3 (.int .i64 (at_ : Int)) ∧ Bl W gb 96 #[v, mk, .map (some pb)] ∧ MapAt Tryz.prog 9 W pb m f ∧
    (∀ s, Rk 1 (fun b => b ≠ A ∧ b ≠ A + 1 ∧ b ≠ gb ∧ b ≠ pb) W (atK f s) (putF F at_ pre s).length (ints (putF F at_ pre s))) ∧ (∀ s t, s ≠ t → ∀ k, At (atK f s) k → ¬ At (atK f t) k) ∧ (A ≠ gb ∧ A ≠ pb ∧ A + 1 ≠ gb ∧ A + 1 ≠ pb ∧ gb ≠ pb) ∧
    G = fun b => b = A ∨ b = A + 1 ∨ b = gb ∨ b = pb ∨ ∃ s, At (atK f s) b
theorem PwJ.stable (A gb pb n at_ : Nat) (v mk : Value) (F : ByteArray → List Nat) (pre : List ByteArray) : H3.Stable (PwJ A gb pb n at_ v mk F pre) := by
  rintro G W W' ⟨f, m, h0, h1, h2, h3, h4, h5, h6, h7, rfl⟩ _ hk
  refine ⟨f, m, h0, h1.keep hk (fun h => h (.inl rfl)), h2.keep hk (fun h => h (.inr (.inl rfl))), (hk.block _ h3.lt (fun h => h (.inr (.inr (.inl rfl))))).trans h3, h4.carry (hk.block _ h4.lt (fun h => h (.inr (.inr (.inr (.inl rfl)))))),
    fun s => (h5 s).carry hk.size fun b _ ha hlt => hk.block b hlt fun h => h (.inr (.inr (.inr (.inr ⟨s, ha⟩)))), h6, h7, rfl⟩
set_option maxHeartbeats 8000000 in
set_option maxRecDepth 100000 in
theorem putWords_any (line : ByteArray) (hlen : line.size ≤ 1000) (at_ : Nat) (hat : at_ ≤ 1000000) {G : Nat → Prop} {w : World} {gb pb n : Nat} {v mk : Value} {F : ByteArray → List Nat} (hc : Bl w gb 96 #[v, mk, .map (some pb)]) (hp : PlAt G w pb n F)
    (hG : ∀ b, G b → b ≠ gb ∧ b ≠ pb) (hgp : gb ≠ pb) (hF : ∀ s, ∀ p ∈ F s, p < at_) (hFl : ∀ s, (F s).length ≤ 1000000) (hn : n ≤ 1000000000) :
    Calls Tryz.prog 72 #[.pointer (some ⟨gb, 0, none⟩), .string line, .int .i64 (at_ : Int)] w fun e w' => e = .returned (.tuple #[]) ∧
      PlAt (fun b => G b ∨ w.heap.size ≤ b) w' pb (n + line.size) (fun s => F s ++ if H3.hasB line s = true then [at_] else []) ∧ H3.Keep (fun b => b = pb ∨ G b) w w' := by
  refine (callsIn_wide (n := 9)).1 ?_
  refine callsIn_of_wp_marks Tryz.func72 rfl trivial ?_
  simp only [Tryz.ntmps72, List.size_toArray, List.length_cons, List.length_nil, Nat.reduceAdd, Nat.reduceSub, Array.replicate_succ, Array.replicate_zero, List.push_toArray, List.append_toArray, List.nil_append, List.cons_append]
  gi_wp2_with (gi_at_call 82; refine (callsIn_wide.2 (H3.words_any line _)).mono ?_; rintro e w' ⟨rfl, rfl⟩)
  have ht0 := H3.Box.new w 79 (.pointer (some ⟨gb, 0, none⟩))
  have hr0 := H3.Box.new (w.alloc (.cells #[.pointer (some ⟨gb, 0, none⟩)] 79)) 3 (.int .i64 (at_ : Int))
  rw [World.size_alloc] at hr0
  have hs0 := H3.Box.new ((w.alloc (.cells #[.pointer (some ⟨gb, 0, none⟩)] 79)).alloc (.cells #[.int .i64 (at_ : Int)] 3)) 9 (.string line)
  rw [World.size_alloc, World.size_alloc] at hs0
  obtain ⟨W0, hW0⟩ : ∃ W0, ((w.alloc (.cells #[.pointer (some ⟨gb, 0, none⟩)] 79)).alloc (.cells #[.int .i64 (at_ : Int)] 3)).alloc (.cells #[.string line] 9) = W0 := ⟨_, rfl⟩
  have hsz : W0.heap.size = w.heap.size + 3 := by rw [← hW0]; simp
  have ht1 : H3.Box W0 w.heap.size 79 (.pointer (some ⟨gb, 0, none⟩)) := by rw [← hW0]; exact (ht0.alloc _).alloc _
  have hr1 : H3.Box W0 (w.heap.size + 1) 3 (.int .i64 (at_ : Int)) := by rw [← hW0]; exact hr0.alloc _
  have hs1 : H3.Box W0 (w.heap.size + 1 + 1) 9 (.string line) := by rw [← hW0]; exact hs0
  have hk1 : ∀ H, H3.Keep H w W0 := fun H => by rw [← hW0]; exact (((H3.Keep.refl H w).alloc _).alloc _).alloc _
  rw [hW0]
  have HSZ := Lib.hid hsz
  clear ht0 hr0 hs0 hW0 hsz
  have hcl := hc.lt
  have hpl := hp.lt
  obtain ⟨f0, g1, g2, g3⟩ := hp
  have hbl : ∀ s b, At (atK f0 s) b → G b ∧ b < w.heap.size := fun s b ha => (g2 s).at ha
  have hJ0 : PwJ w.heap.size gb pb n at_ v mk F [] (fun b => b = w.heap.size ∨ b = w.heap.size + 1 ∨ b = gb ∨ b = pb ∨ ∃ s, At (atK f0 s) b) W0 :=
    ⟨f0, n, Nat.le_refl _, ht1, hr1, ((hk1 (fun _ => False)).block _ hcl (fun h => h)).trans hc, g1.carry ((hk1 (fun _ => False)).block _ hpl (fun h => h)),
      fun s => by rw [putF_nil]; exact ((g2 s).carry (hk1 (fun _ => False)).size fun b _ _ hlt => (hk1 (fun _ => False)).block b hlt (fun h => h)).mono fun b hg ha => by have := (hbl s b ha).2; have := hG b hg; omega,
      g3, by omega, rfl⟩
  have hlive : H3.Live (fun b => b = w.heap.size ∨ b = w.heap.size + 1 ∨ b = gb ∨ b = pb ∨ ∃ s, At (atK f0 s) b) W0 := by
    rintro b (rfl | rfl | rfl | rfl | ⟨s, hs⟩)
    · rw [HSZ.out]; omega
    · rw [HSZ.out]; omega
    · rw [HSZ.out]; omega
    · rw [HSZ.out]; omega
    · rw [HSZ.out]; have := (hbl s b hs).2; omega
  have hGC : ¬ (∃ s, At (atK f0 s) (w.heap.size + 1 + 1)) := fun ⟨s, hs⟩ => by have := (hbl s _ hs).2; omega
  have HBL := Lib.hid hbl
  have HK1 := Lib.hid hk1
  have HC := Lib.hid hc
  have HG := Lib.hid hG
  have HW := Lib.hid (H3.wordsB_length line)
  clear hc g1 g2 g3 hbl hk1 ht1 hr1
  refine H3.wpIn_over (gf := 95) (lb := #[.pointer (some ⟨w.heap.size + 1 + 1, 0, none⟩)]) rfl (enters_of Tryz.func95 (by kernel_rfl) rfl) (H3.words_gives line (by omega) (w.heap.size + 1 + 1) W0 hs1) (fun k hk => by subst hk; exact hs1.lt) (fun _ => rfl)
    (fun pre => PwJ w.heap.size gb pb n at_ v mk F pre) (fun _ _ _ _ => False) (fun s => PwJ.stable _ _ _ _ _ _ _ _ _) (fun _ _ _ _ _ h _ _ => h) (fun b => b = w.heap.size ∨ b = w.heap.size + 1 ∨ b = gb ∨ b = pb ∨ ∃ s, At (atK f0 s) b)
    (fun k hk h => by subst hk; rcases h with h | h | h | h | h <;> first | omega | exact hGC h) hJ0 hlive
    (fun x => { tmps := #[.pointer (some ⟨gb, 0, none⟩), .string line, .int .i64 (at_ : Int), .pointer (some ⟨w.heap.size, 0, none⟩), undef, .pointer (some ⟨w.heap.size + 1, 0, none⟩), .string x, undef, .string line, .func (.func 95) #[] #[.pointer (some ⟨w.heap.size + 1 + 1, 0, none⟩)], .string x, undef, undef, undef, undef, undef, undef, undef, undef, undef, undef, undef, undef, undef, undef, undef, undef, undef, undef, undef, undef, undef, undef, undef, undef, undef, undef, undef, undef], defers := [] }) ?assign ?body ?done ?stop
  case assign =>
    intro l2 x W2 K hK
    dsimp only [H3.encS]
    gi_wp2
    exact hK
  case body =>
    rintro l2 pre x G1 W hpx ⟨f, m, hm, hba, hbb, hbe, hmp, hrk, hap, hne, rfl⟩ hlive1
    have ca := hba.cell
    have cb := hbb.cell
    have e0 := hbe.cell 0
    have e1 := hbe.cell 1
    have e2 := hbe.cell 2
    simp only [List.getElem?_toArray, List.getElem?_cons_succ, List.getElem?_cons_zero] at e0 e1 e2
    have hxm : x ∈ H3.wordsB line := hpx.subset (by simp)
    have hxs : x.size ≤ maxLen := by
      obtain ⟨p, _, rfl⟩ := List.mem_map.1 hxm
      have := pc_size line p
      unfold maxLen
      omega
    have hpl2 : (pre ++ [x]).length ≤ line.size := Nat.le_trans hpx.length_le (H3.wordsB_length line)
    rw [List.length_append, List.length_singleton] at hpl2
    have hlk : (Instr.lookup 94 (.map (some pb)) (.string x) false).run Tryz.prog W = .ok (atK f x) W := hmp.look Tryz.underlying9 Tryz.underlying94 (by kernel_rfl) hxs
    have hlA : w.heap.size < W.heap.size := hba.lt
    have hlB : w.heap.size + 1 < W.heap.size := hbb.lt
    have hlG : gb < W.heap.size := hbe.lt
    have hlP : pb < W.heap.size := hmp.lt
    have hnA : ∀ s b, At (atK f s) b → (b ≠ w.heap.size ∧ b ≠ w.heap.size + 1 ∧ b ≠ gb ∧ b ≠ pb) ∧ b < W.heap.size := fun s b ha => (hrk s).at ha
    have HML : Hid (m < maxLen) := Lib.hid (by unfold maxLen; omega)
    have HXS := Lib.hid hxs
    have HPB : Hid (pb < W.drew.drew.heap.size) := Lib.hid hlP
    have HMP : Hid (MapAt Tryz.prog 9 W.drew.drew pb m f) := Lib.hid (hmp.carry rfl)
    have HNP0 : ¬ At (atK f x) pb := fun h => (hnA x pb h).1.2.2.2 rfl
    have HLN0 : (putF F at_ pre x).length ≤ 1000001 := Nat.le_trans (putF_len F at_ pre x) (by have := hFl x; omega)
    have HCA : Hid (∀ W1, Keep (fun q => q = pb ∨ At (atK f x) q) W.drew.drew W1 → W1.cell? ⟨w.heap.size, 0, none⟩ = some (.pointer (some ⟨gb, 0, none⟩))) := Lib.hid fun W1 h => (World.cell?_of_block (a := ⟨w.heap.size, 0, none⟩) (h.block w.heap.size hlA fun hq => hq.elim (fun e => hne.2.1 e) fun e => (hnA x _ e).1.1 rfl)).trans ca
    have HCB : Hid (∀ W1, Keep (fun q => q = pb ∨ At (atK f x) q) W.drew.drew W1 → W1.cell? ⟨w.heap.size + 1, 0, none⟩ = some (.int .i64 (at_ : Int))) := Lib.hid fun W1 h => (World.cell?_of_block (a := ⟨w.heap.size + 1, 0, none⟩) (h.block (w.heap.size + 1) hlB fun hq => hq.elim (fun e => hne.2.2.2.1 e) fun e => (hnA x _ e).1.2.1 rfl)).trans cb
    have HCE : Hid (∀ W1, Keep (fun q => q = pb ∨ At (atK f x) q) W.drew.drew W1 → W1.cell? ⟨gb, 2, none⟩ = some (.map (some pb))) := Lib.hid fun W1 h => (World.cell?_of_block (a := ⟨gb, 2, none⟩) (h.block gb hlG fun hq => hq.elim (fun e => hne.2.2.2.2 e) fun e => (hnA x _ e).1.2.2.1 rfl)).trans e2
    have HNX : (pre.any fun y => decide (y = x)) = false → Hid (∀ v8 W2, Rk 1 (fun q => At (atK f x) q ∨ W.drew.drew.heap.size ≤ q) W2 v8 ((putF F at_ pre x).length + 1) (ints (putF F at_ pre x) ++ [.int .i64 (at_ : Int)]) → MapAt Tryz.prog 9 W2 pb (m + 1) (fun t => if t = x then some v8 else f t) →
        Keep (fun q => q = pb ∨ At (atK f x) q) W.drew.drew W2 → H3.Next (PwJ w.heap.size gb pb n at_ v mk F (pre ++ [x])) (fun b => b = w.heap.size ∨ b = w.heap.size + 1 ∨ b = gb ∨ b = pb ∨ ∃ s, At (atK f s) b) W W2) := fun hnew => Lib.hid (by
      intro v8 W2 h8 hd9 hk2
      have ex : atK (fun t => if t = x then some v8 else f t) x = v8 := by show (if x = x then some v8 else f x).getD _ = v8; rw [if_pos rfl]; rfl
      have eo : ∀ s, s ≠ x → atK (fun t => if t = x then some v8 else f t) s = atK f s := fun s hs => by show (if s = x then some v8 else f s).getD _ = _; rw [if_neg hs]; rfl
      have hat8 : ∀ b, At v8 b → (At (atK f x) b ∨ W.heap.size ≤ b) ∧ b < W2.heap.size := fun b hb => h8.at hb
      have hs2 : W.heap.size ≤ W2.heap.size := hk2.size
      have hx8 := putF_new (F := F) (at_ := at_) hnew x
      rw [if_pos rfl] at hx8
      refine H3.Next.mk (fun b => b = w.heap.size ∨ b = w.heap.size + 1 ∨ b = gb ∨ b = pb ∨ ∃ s, At (atK (fun t => if t = x then some v8 else f t) s) b) ⟨_, m + 1, by rw [List.length_append, List.length_singleton]; omega, (hk2.block _ hlA fun hq => hq.elim (fun e => hne.2.1 e) fun e => (hnA x _ e).1.1 rfl).trans hba,
        (hk2.block _ hlB fun hq => hq.elim (fun e => hne.2.2.2.1 e) fun e => (hnA x _ e).1.2.1 rfl).trans hbb, (hk2.block _ hlG fun hq => hq.elim (fun e => hne.2.2.2.2 e) fun e => (hnA x _ e).1.2.2.1 rfl).trans hbe, hd9, fun s => ?_, fun s t hst b hs ht => ?_, hne, rfl⟩ ?_ ?_ ?_
      · by_cases hs : s = x
        · subst hs
          rw [ex, hx8, List.length_append, List.length_singleton, ints_snoc]
          exact h8.mono fun b hg _ => by
            rcases hg with hg | hg
            · exact (hnA s b hg).1
            · have hg : W.heap.size ≤ b := hg
              omega
        · rw [eo s hs, putF_new hnew s, if_neg hs]
          exact (hrk s).carry hs2 fun b hg ha hlt => hk2.block b hlt fun hq => hq.elim (fun e => hg.2.2.2 e) fun e => hap s x hs b ha e
      · by_cases h1 : s = x
        · subst h1
          rw [ex] at hs
          rw [eo t (Ne.symm hst)] at ht
          rcases (hat8 b hs).1 with h2 | h2
          · exact hap s t hst b h2 ht
          · have := (hnA t b ht).2; omega
        · rw [eo s h1] at hs
          by_cases h3 : t = x
          · subst h3
            rw [ex] at ht
            rcases (hat8 b ht).1 with h2 | h2
            · exact hap s t hst b hs h2
            · have := (hnA s b hs).2; omega
          · rw [eo t h3] at ht
            exact hap s t hst b hs ht
      · rintro b (rfl | rfl | rfl | rfl | ⟨s, hs⟩)
        · omega
        · omega
        · omega
        · omega
        · by_cases h1 : s = x
          · subst h1
            rw [ex] at hs
            exact (hat8 b hs).2
          · rw [eo s h1] at hs
            have := (hnA s b hs).2
            omega
      · rintro b (rfl | rfl | rfl | rfl | ⟨s, hs⟩)
        · exact .inl (.inl rfl)
        · exact .inl (.inr (.inl rfl))
        · exact .inl (.inr (.inr (.inl rfl)))
        · exact .inl (.inr (.inr (.inr (.inl rfl))))
        · by_cases h1 : s = x
          · subst h1
            rw [ex] at hs
            exact (hat8 b hs).1.imp (fun h => .inr (.inr (.inr (.inr ⟨s, h⟩)))) id
          · rw [eo s h1] at hs
            exact .inl (.inr (.inr (.inr (.inr ⟨s, hs⟩))))
      · exact ⟨hk2.os, hk2.tape, hk2.output, hs2, fun b hb hn => hk2.block b hb fun hq => hn (hq.elim (fun e => .inr (.inr (.inr (.inl e)))) fun e => .inr (.inr (.inr (.inr ⟨x, e⟩))))⟩)
    have HNO : (pre.any fun y => decide (y = x)) = true → Hid (H3.Next (PwJ w.heap.size gb pb n at_ v mk F (pre ++ [x])) (fun b => b = w.heap.size ∨ b = w.heap.size + 1 ∨ b = gb ∨ b = pb ∨ ∃ s, At (atK f s) b) W W.drew) := fun hold => Lib.hid
      (H3.Next.mk _ ⟨f, m, by rw [List.length_append, List.length_singleton]; omega, hba, hbb, hbe, hmp.carry rfl, fun s => by rw [putF_had hold]; exact (hrk s).drew, hap, hne, rfl⟩ (fun b hb => hlive1 b hb) (fun b hb => .inl hb) ((H3.Keep.refl _ _).drew))
    obtain ⟨iI, zI, EI⟩ := elemI
    have HRK0 : ∀ W1, Lay W.drew.drew W1 → Rk 1 (fun _ => True) W1 (atK f x) (putF F at_ pre x).length (ints (putF F at_ pre x)) := fun W1 hl => (((hrk x).drew.drew.lay hl).mono fun _ _ _ => trivial)
    have HRK0 := Lib.hid HRK0
    by_cases h0 : (putF F at_ pre x).length = 0
    · have HNX := HNX (putF_none h0)
      have hnil : putF F at_ pre x = [] := List.eq_nil_of_length_eq_zero h0
      obtain ⟨av, ac, hav⟩ := (hrk x).shape
      rw [h0] at hav
      rw [hnil] at HNX HRK0
      rw [hav] at hlk HNX HRK0 HNP0 HCA HCB HCE
      have HRK := HRK0
      have HNP := Lib.hid HNP0
      have HLN : Hid (0 ≤ 1000001) := Lib.hid (by omega)
      simp only [List.length_nil] at HRK HNX
      clear HNP0 HLN0 hnil h0 hav hrk hap hnA hlive1 hpx hxm HNO hm hxs hF hFl hG hJ0 hlive hGC hmp hpl2 hba hbb hbe
      gi_wp2_with fail
      clear hlk
      refine H3.wpIn_region_flow (fun _ => trivial) (by kernel_rfl) (fun _ _ W1 => W1 = W.drew) (fun _ _ _ _ => True) (GV [some (.slice av 0 ac), some (.int .i64 0), some (.bool true), some (.bool true), none, none, none, none, none, none, none, none, some (.bool true)] [] (fun _ _ _ => True)) (fun j => j == 12) (by kernel_rfl) (by kernel_rfl) ?hst rfl ?step ?fin
      case hst =>
        intro i j ys v w1 w2 hij hanc hned hV hR
        exact gvq_keep (by simp) hij hV
      case step =>
        refine ⟨?_, ?_, ?_, ?_, ?_, ?_, ?_, ?_, ?_, ?_, ?_, ?_, ?_, trivial⟩
        · intro listed ys X W1 hsz hsd hi2 hall hX hI hd K hK
          subst hI
          have e7 : X.tmps.getD 7 undef = .slice av 0 ac := hX 7 (Nat.le_of_ble_eq_true rfl)
          refine H3.step_run (.inl rfl) ?_
          clear hX hd
          go_simp
          exact hK _ _ rfl trivial (GV.of (by decide) (fun u h => by cases h; rfl))
        · intro listed ys X W1 hsz hsd hi2 hall hX hI hd K hK
          subst hI
          have e17 : X.tmps.getD 17 undef = .slice av 0 ac := (hX 17 (Nat.le_of_ble_eq_true rfl)).trans (GV.val (hd ⟨0, .data⟩ (by simp) rfl) (by decide) rfl)
          refine H3.step_run (.inl rfl) ?_
          clear hX hd
          go_simp
          exact hK _ _ rfl trivial (GV.of (by decide) (fun u h => by cases h; rfl))
        · intro listed ys X W1 hsz hsd hi2 hall hX hI hd K hK
          subst hI
          have e18 : X.tmps.getD 18 undef = .int .i64 0 := (hX 18 (Nat.le_of_ble_eq_true rfl)).trans (GV.val (hd ⟨1, .data⟩ (by simp) rfl) (by decide) rfl)
          refine H3.step_run (.inl rfl) ?_
          clear hX hd
          go_simp
          exact hK _ _ rfl trivial (GV.of (by decide) (fun u h => by cases h; rfl))
        · intro listed ys X W1 hsz hsd hi2 hall hX hI hd K hK
          subst hI
          have e19 : X.tmps.getD 19 undef = .bool true := (hX 19 (Nat.le_of_ble_eq_true rfl)).trans (GV.val (hd ⟨2, .data⟩ (by simp) rfl) (by decide) rfl)
          refine H3.step_run (.inl rfl) ?_
          clear hX hd
          go_simp
          exact hK _ _ rfl trivial (GV.of (by decide) (fun u h => by cases h; rfl))
        · intro listed ys X W1 hsz hsd hi2 hall hX hI hd K hK
          subst hI
          have eg : X.tmps.getD 20 undef = .bool true := (hX 20 (Nat.le_of_ble_eq_true rfl)).trans (GV.val (hd ⟨3, .guard⟩ (by simp) rfl) (by decide) rfl)
          refine H3.step_skip ⟨3, 20, true, rfl, rfl, eg⟩ ?_
          exact hK _ _ rfl trivial (GV.of (by decide) (fun u h => by cases h))
        · intro listed ys X W1 hsz hsd hi2 hall hX hI hd K hK
          subst hI
          have eg : X.tmps.getD 20 undef = .bool true := (hX 20 (Nat.le_of_ble_eq_true rfl)).trans (GV.val (hd ⟨3, .guard⟩ (by simp) rfl) (by decide) rfl)
          refine H3.step_skip ⟨3, 20, true, rfl, rfl, eg⟩ ?_
          exact hK _ _ rfl trivial (GV.of (by decide) (fun u h => by cases h))
        · intro listed ys X W1 hsz hsd hi2 hall hX hI hd K hK
          subst hI
          have eg : X.tmps.getD 20 undef = .bool true := (hX 20 (Nat.le_of_ble_eq_true rfl)).trans (GV.val (hd ⟨3, .guard⟩ (by simp) rfl) (by decide) rfl)
          refine H3.step_skip ⟨3, 20, true, rfl, rfl, eg⟩ ?_
          exact hK _ _ rfl trivial (GV.of (by decide) (fun u h => by cases h))
        · intro listed ys X W1 hsz hsd hi2 hall hX hI hd K hK
          subst hI
          have eg : X.tmps.getD 20 undef = .bool true := (hX 20 (Nat.le_of_ble_eq_true rfl)).trans (GV.val (hd ⟨3, .guard⟩ (by simp) rfl) (by decide) rfl)
          refine H3.step_skip ⟨3, 20, true, rfl, rfl, eg⟩ ?_
          exact hK _ _ rfl trivial (GV.of (by decide) (fun u h => by cases h))
        · intro listed ys X W1 hsz hsd hi2 hall hX hI hd K hK
          subst hI
          have eg : X.tmps.getD 20 undef = .bool true := (hX 20 (Nat.le_of_ble_eq_true rfl)).trans (GV.val (hd ⟨3, .guard⟩ (by simp) rfl) (by decide) rfl)
          refine H3.step_skip ⟨3, 20, true, rfl, rfl, eg⟩ ?_
          exact hK _ _ rfl trivial (GV.of (by decide) (fun u h => by cases h))
        · intro listed ys X W1 hsz hsd hi2 hall hX hI hd K hK
          subst hI
          have eg : X.tmps.getD 20 undef = .bool true := (hX 20 (Nat.le_of_ble_eq_true rfl)).trans (GV.val (hd ⟨3, .guard⟩ (by simp) rfl) (by decide) rfl)
          refine H3.step_skip ⟨3, 20, true, rfl, rfl, eg⟩ ?_
          exact hK _ _ rfl trivial (GV.of (by decide) (fun u h => by cases h))
        · intro listed ys X W1 hsz hsd hi2 hall hX hI hd K hK
          subst hI
          have eg : X.tmps.getD 20 undef = .bool true := (hX 20 (Nat.le_of_ble_eq_true rfl)).trans (GV.val (hd ⟨3, .guard⟩ (by simp) rfl) (by decide) rfl)
          refine H3.step_skip ⟨3, 20, true, rfl, rfl, eg⟩ ?_
          exact hK _ _ rfl trivial (GV.of (by decide) (fun u h => by cases h))
        · intro listed ys X W1 hsz hsd hi2 hall hX hI hd K hK
          subst hI
          have eg : X.tmps.getD 20 undef = .bool true := (hX 20 (Nat.le_of_ble_eq_true rfl)).trans (GV.val (hd ⟨3, .guard⟩ (by simp) rfl) (by decide) rfl)
          refine H3.step_skip ⟨3, 20, true, rfl, rfl, eg⟩ ?_
          exact hK _ _ rfl trivial (GV.of (by decide) (fun u h => by cases h))
        · intro listed ys X W1 hsz hsd hi2 hall hX hI hd K hK
          subst hI
          have e20 : X.tmps.getD 20 undef = .bool true := (hX 20 (Nat.le_of_ble_eq_true rfl)).trans (GV.val (hd ⟨3, .data⟩ (by simp) rfl) (by decide) rfl)
          refine H3.step_run (.inl rfl) ?_
          clear hX hd
          go_simp
          exact hK _ _ rfl trivial (GV.of (by decide) (fun u h => by cases h; rfl))
      case fin =>
        intro listed ys W1 hall hI hV
        subst hI
        have h12 : ys 12 = .bool true := GV.val (hV 12 (by decide) rfl) (by decide) rfl
        clear hV hall
        simp only [H3.putsFrom]
        simp only [h12, Act.put, List.setIfInBounds_toArray, List.set_cons_succ, List.set_cons_zero]
        gi_wp2_with fail
        clear ca cb e0 e1 e2 h12
        refine H3.wpIn_region_flow (fun _ => trivial) (by kernel_rfl) (PS W.drew.drew pb m f x (.slice av 0 ac) (0 + 1) (ints [] ++ [.int .i64 (at_ : Int)])) (fun i _ W1 W2 => i = 8 ∨ i = 9 ∨ Lay W1 W2) (GV [some (.pointer (some ⟨gb, 0, none⟩)), some (.pointer (some ⟨gb, 0, none⟩)), some (.pointer (some ⟨gb, 2, none⟩)), some (.map (some pb)), some (.string x), some (.slice av 0 ac), some (.int .i64 (at_ : Int)), none, none, none] [7] (fun _ v w => OneAt at_ v w)) (fun _ => false) (by kernel_rfl) (by kernel_rfl) ?hst ⟨Keep.refl _ _, fun _ => Keep.refl _ _, (fun h => by cases h), fun _ => HMP.out, (fun h => by cases h)⟩ ?step ?fin
        case hst =>
          intro i j ys v w1 w2 hij hanc hned hV hR
          by_cases hj : j = 7
          · subst hj
            rcases hR with rfl | rfl | hR
            · cases hned.symm.trans (by kernel_rfl : _ = false)
            · cases hned.symm.trans (by kernel_rfl : _ = false)
            · exact GV.keep (fun _ _ _ _ h hb => h.below hb) hij hV (lay_below hR)
          · exact gvq_keep (by simpa using hj) hij hV
        case step =>
          refine ⟨?_, ?_, ?_, ?_, ?_, ?_, ?_, ?_, ?_, ?_, trivial⟩
          · intro listed ys X W1 hsz hsd hi2 hall hX hI hd K hK
            have e3 : X.tmps.getD 3 undef = .pointer (some ⟨w.heap.size, 0, none⟩) := hX 3 (Nat.le_of_ble_eq_true rfl)
            have cA := HCA.out W1 hI.k
            have HI := Lib.hid hI
            refine H3.step_run (.inl rfl) ?_
            clear hX hd hI
            go_simp
            exact hK _ _ (HI.out.other (Keep.refl _ _) (by decide) (by decide) _) (.inr (.inr (Keep.refl _ _))) (GV.of (by decide) (fun u h => by cases h; rfl))
          · intro listed ys X W1 hsz hsd hi2 hall hX hI hd K hK
            have e30 : X.tmps.getD 30 undef = .pointer (some ⟨gb, 0, none⟩) := (hX 30 (Nat.le_of_ble_eq_true rfl)).trans (GV.val (hd ⟨0, .data⟩ (by simp) rfl) (by decide) rfl)
            have HI := Lib.hid hI
            refine H3.step_run (.inl rfl) ?_
            clear hX hd hI
            go_simp
            exact hK _ _ (HI.out.other (Keep.refl _ _) (by decide) (by decide) _) (.inr (.inr (Keep.refl _ _))) (GV.of (by decide) (fun u h => by cases h; rfl))
          · intro listed ys X W1 hsz hsd hi2 hall hX hI hd K hK
            have e31 : X.tmps.getD 31 undef = .pointer (some ⟨gb, 0, none⟩) := (hX 31 (Nat.le_of_ble_eq_true rfl)).trans (GV.val (hd ⟨1, .data⟩ (by simp) rfl) (by decide) rfl)
            have HI := Lib.hid hI
            refine H3.step_run (.inl rfl) ?_
            clear hX hd hI
            go_simp
            exact hK _ _ (HI.out.other (Keep.refl _ _) (by decide) (by decide) _) (.inr (.inr (Keep.refl _ _))) (GV.of (by decide) (fun u h => by cases h; rfl))
          · intro listed ys X W1 hsz hsd hi2 hall hX hI hd K hK
            have e32 : X.tmps.getD 32 undef = .pointer (some ⟨gb, 2, none⟩) := (hX 32 (Nat.le_of_ble_eq_true rfl)).trans (GV.val (hd ⟨2, .data⟩ (by simp) rfl) (by decide) rfl)
            have cE := HCE.out W1 hI.k
            have HI := Lib.hid hI
            refine H3.step_run (.inl rfl) ?_
            clear hX hd hI
            go_simp
            exact hK _ _ (HI.out.other (Keep.refl _ _) (by decide) (by decide) _) (.inr (.inr (Keep.refl _ _))) (GV.of (by decide) (fun u h => by cases h; rfl))
          · intro listed ys X W1 hsz hsd hi2 hall hX hI hd K hK
            have e6 : X.tmps.getD 6 undef = .string x := hX 6 (Nat.le_of_ble_eq_true rfl)
            have HI := Lib.hid hI
            refine H3.step_run (.inl rfl) ?_
            clear hX hd hI
            go_simp
            exact hK _ _ (HI.out.other (Keep.refl _ _) (by decide) (by decide) _) (.inr (.inr (Keep.refl _ _))) (GV.of (by decide) (fun u h => by cases h; rfl))
          · intro listed ys X W1 hsz hsd hi2 hall hX hI hd K hK
            have e7 : X.tmps.getD 7 undef = .slice av 0 ac := hX 7 (Nat.le_of_ble_eq_true rfl)
            have HI := Lib.hid hI
            refine H3.step_run (.inl rfl) ?_
            clear hX hd hI
            go_simp
            exact hK _ _ (HI.out.other (Keep.refl _ _) (by decide) (by decide) _) (.inr (.inr (Keep.refl _ _))) (GV.of (by decide) (fun u h => by cases h; rfl))
          · intro listed ys X W1 hsz hsd hi2 hall hX hI hd K hK
            have e5 : X.tmps.getD 5 undef = .pointer (some ⟨w.heap.size + 1, 0, none⟩) := hX 5 (Nat.le_of_ble_eq_true rfl)
            have cB := HCB.out W1 hI.k
            have HI := Lib.hid hI
            refine H3.step_run (.inl rfl) ?_
            clear hX hd hI
            go_simp
            exact hK _ _ (HI.out.other (Keep.refl _ _) (by decide) (by decide) _) (.inr (.inr (Keep.refl _ _))) (GV.of (by decide) (fun u h => by cases h; rfl))
          · intro listed ys X W1 hsz hsd hi2 hall hX hI hd K hK
            have e36 : X.tmps.getD 36 undef = .int .i64 (at_ : Int) := (hX 36 (Nat.le_of_ble_eq_true rfl)).trans (GV.val (hd ⟨6, .data⟩ (by simp) rfl) (by decide) rfl)
            have e36' : X.tmps[36]?.getD undef = .int .i64 (at_ : Int) := by rw [← Array.getD_eq_getD_getElem?]; exact e36
            have HI := Lib.hid hI
            refine H3.step_run (.inl rfl) ?_
            clear hX hd hI
            go_simp
            exact hK _ _ (HI.out.other ((Keep.refl _ _).alloc _) (by decide) (by decide) _) (.inr (.inr ((Keep.refl _ _).alloc _))) (GV.ofsp (by decide) (OneAt.new _ _))
          · intro listed ys X W1 hsz hsd hi2 hall hX hI hd K hK
            have hl := hI.a hi2
            have h9 := H3.not_yet hsd hi2 (c := 9) (by kernel_rfl)
            have hone := GV.spv (hd ⟨7, .data⟩ (by simp) rfl) (by decide)
            have e35 : X.tmps.getD 35 undef = .slice av 0 ac := (hX 35 (Nat.le_of_ble_eq_true rfl)).trans (GV.val (hd ⟨5, .data⟩ (by simp) rfl) (by decide) rfl)
            have e37 : X.tmps.getD 37 undef = ys 7 := hX 37 (Nat.le_of_ble_eq_true rfl)
            obtain ⟨v', W2, hrun, hr, hk⟩ := run_append_rk EI (HRK.out W1 hl) (fun _ _ => trivial) 22 22 _ 1 [.int .i64 (at_ : Int)] (OneAt.src hone) (by have := HLN.out; omega) (by have := HLN.out; omega)
            have hs8 : 8 < listed.size := by rw [hsz]; decide
            refine H3.step_run (.inl rfl) ?_
            refine operIn_append13 (.tmp 35) (.tmp 37) 22 rfl e35 e37 hrun ?_
            refine hK _ _ ⟨Keep.trans hI.k (hk.into fun q _ h => .inr h), fun q => by simp [Array.getD, hs8] at q, fun _ => ?_, fun q => ?_, fun q => ?_⟩ (.inl rfl) (GV.of (by decide) (fun u h => by cases h))
            · rw [H3.upd_same]
              exact hr.mono fun q hq _ => hq.2.imp id fun h => Nat.le_trans hl.size h
            · exact (hI.c h9).carry (hk.block pb (hI.c h9).lt HNP.out)
            · rw [show (listed.setIfInBounds 8 true).getD 9 false = listed.getD 9 false from getD_set_ne false (by decide), h9] at q; cases q
          · intro listed ys X W1 hsz hsd hi2 hall hX hI hd K hK
            have h8 := hall ⟨8, .data⟩ (by simp) rfl
            have hc := hI.c hi2
            have hb := hI.b h8
            have e33 : X.tmps.getD 33 undef = .map (some pb) := (hX 33 (Nat.le_of_ble_eq_true rfl)).trans (GV.val (hd ⟨3, .data⟩ (by simp) rfl) (by decide) rfl)
            have e34 : X.tmps.getD 34 undef = .string x := (hX 34 (Nat.le_of_ble_eq_true rfl)).trans (GV.val (hd ⟨4, .data⟩ (by simp) rfl) (by decide) rfl)
            have e38 : X.tmps.getD 38 undef = ys 8 := hX 38 (Nat.le_of_ble_eq_true rfl)
            obtain ⟨W2, hrun, hm2, hk2⟩ := hc.store Tryz.underlying9 Tryz.underlying94 HML.out HXS.out (ys 8)
            have hs9 : 9 < listed.size := by rw [hsz]; decide
            refine H3.step_run (.inl rfl) ?_
            refine operIn_update13 (.tmp 33) (.tmp 34) (.tmp 38) 94 rfl e33 e34 e38 hrun ?_
            refine hK _ _ ⟨Keep.trans hI.k (hk2.into fun q _ h => .inl h), fun q => ?_, fun _ => ?_, fun q => by simp [Array.getD, hs9] at q, fun _ => ?_⟩ (.inr (.inl rfl)) (GV.of (by decide) (fun u h => by cases h))
            · rw [show (listed.setIfInBounds 9 true).getD 8 false = listed.getD 8 false from getD_set_ne false (by decide), h8] at q; cases q
            · rw [H3.upd_other _ _ (by decide)]
              exact hb.carry hk2.size fun q hg ha hlt => hk2.block q hlt fun e => by subst e; rcases hg with hg | hg; exact HNP.out hg; have := HPB.out; omega
            · rw [H3.upd_other _ _ (by decide)]
              exact hm2
        case fin =>
          intro listed ys W2 hall hI _
          have h8 := hI.b (hall 8 (by decide))
          have hd9 := hI.d (hall 9 (by decide))
          have hk2 := hI.k
          generalize ys 8 = v8 at h8 hd9
          have HN := Lib.hid (HNX.out v8 W2 h8 hd9 hk2)
          clear hall hI h8 hd9 hk2
          simp only [H3.putsFrom]
          simp only [Act.put, List.setIfInBounds_toArray, List.set_cons_succ, List.set_cons_zero]
          gi_wp2
          exact HN.out
    · obtain ⟨k, hk⟩ : ∃ k, (putF F at_ pre x).length = k + 1 := ⟨_, (Nat.succ_pred h0).symm⟩
      have hlst := putF_last (hF x) hk (by omega)
      obtain ⟨_, ⟨h1, h2⟩ | ⟨q, c, h1, hq, hqlt, hle, _, hcl2, hfz⟩⟩ := hrk x
      · exact absurd h2 h0
      have hlast : W.cell? ⟨q, k, none⟩ = some (.int .i64 ((putF F at_ pre x)[k]'(by omega) : Int)) := (hcl2 k (by rw [ints_len]; omega)).trans (ints_get _ _ _)
      rw [hk] at h1
      rw [h1] at hlk HNX HRK0 HNP0 HCA HCB HCE
      rw [hk] at HNX HRK0
      have HRK := HRK0
      have HNP := Lib.hid HNP0
      have HLN : Hid (k + 1 ≤ 1000001) := Lib.hid (by omega)
      have d1 : (((k + 1 : Nat) : Int) == 0) = false := by
        have : ((k + 1 : Nat) : Int) ≠ 0 := by omega
        simpa using this
      have d2 : ((k + 1 : Nat) : Int) - 1 = (k : Int) := by omega
      have d3 : IntKind.i64.wrap (k : Int) = (k : Int) := by unfold IntKind.wrap; simp [IntKind.signed, IntKind.bits]; omega
      have d4 : ¬ (k : Int) < 0 := by omega
      have d5 : (k : Int) < (k : Int) + 1 := by omega
      generalize hla : ((putF F at_ pre x)[k]'(by omega)) = la at hlast hlst
      have HLS := Lib.hid hlst
      clear hlst hla HNP0 HLN0 h0 hk hrk hap hnA hlive1 hpx hxm hm hxs hF hFl hG hJ0 hlive hGC hmp hpl2 hba hbb hbe
      clear h1 hq hqlt hle hcl2 hfz
      gi_wp2_with fail
      clear hlk
      refine H3.wpIn_region_flow (fun _ => trivial) (by kernel_rfl) (fun _ _ W1 => W1 = W.drew) (fun _ _ _ _ => True) (GV [some (.slice (some ⟨q, 0, none⟩) (k + 1) c), some (.int .i64 ((k + 1 : Nat) : Int)), some (.bool false), some (.bool false), some (.slice (some ⟨q, 0, none⟩) (k + 1) c), some (.slice (some ⟨q, 0, none⟩) (k + 1) c), some (.int .i64 ((k + 1 : Nat) : Int)), some (.int .i64 (k : Int)), some (.pointer (some ⟨q, k, none⟩)), some (.int .i64 (la : Int)), some (.int .i64 (at_ : Int)), some (.bool ((la : Int) != (at_ : Int))), some (.bool ((la : Int) != (at_ : Int)))] [] (fun _ _ _ => True)) (fun j => j == 12) (by kernel_rfl) (by kernel_rfl) ?hst rfl ?step ?fin
      case hst =>
        intro i j ys v w1 w2 hij hanc hned hV hR
        exact gvq_keep (by simp) hij hV
      case step =>
        refine ⟨?_, ?_, ?_, ?_, ?_, ?_, ?_, ?_, ?_, ?_, ?_, ?_, ?_, trivial⟩
        · intro listed ys X W1 hsz hsd hi2 hall hX hI hd K hK
          subst hI
          have e7 : X.tmps.getD 7 undef = .slice (some ⟨q, 0, none⟩) (k + 1) c := hX 7 (Nat.le_of_ble_eq_true rfl)
          refine H3.step_run (.inl rfl) ?_
          clear hX hd
          go_simp
          exact hK _ _ rfl trivial (GV.of (by decide) (fun u h => by cases h; rfl))
        · intro listed ys X W1 hsz hsd hi2 hall hX hI hd K hK
          subst hI
          have e17 : X.tmps.getD 17 undef = .slice (some ⟨q, 0, none⟩) (k + 1) c := (hX 17 (Nat.le_of_ble_eq_true rfl)).trans (GV.val (hd ⟨0, .data⟩ (by simp) rfl) (by decide) rfl)
          refine H3.step_run (.inl rfl) ?_
          clear hX hd
          go_simp
          exact hK _ _ rfl trivial (GV.of (by decide) (fun u h => by cases h; rfl))
        · intro listed ys X W1 hsz hsd hi2 hall hX hI hd K hK
          subst hI
          have e18 : X.tmps.getD 18 undef = .int .i64 ((k + 1 : Nat) : Int) := (hX 18 (Nat.le_of_ble_eq_true rfl)).trans (GV.val (hd ⟨1, .data⟩ (by simp) rfl) (by decide) rfl)
          refine H3.step_run (.inl rfl) ?_
          clear hX hd
          go_simp
          exact hK _ _ rfl trivial (GV.of (by decide) (fun u h => by cases h; rfl))
        · intro listed ys X W1 hsz hsd hi2 hall hX hI hd K hK
          subst hI
          have e19 : X.tmps.getD 19 undef = .bool false := (hX 19 (Nat.le_of_ble_eq_true rfl)).trans (GV.val (hd ⟨2, .data⟩ (by simp) rfl) (by decide) rfl)
          refine H3.step_run (.inl rfl) ?_
          clear hX hd
          go_simp
          exact hK _ _ rfl trivial (GV.of (by decide) (fun u h => by cases h; rfl))
        · intro listed ys X W1 hsz hsd hi2 hall hX hI hd K hK
          subst hI
          have eg : X.tmps.getD 20 undef = .bool false := (hX 20 (Nat.le_of_ble_eq_true rfl)).trans (GV.val (hd ⟨3, .guard⟩ (by simp) rfl) (by decide) rfl)
          have e7 : X.tmps.getD 7 undef = .slice (some ⟨q, 0, none⟩) (k + 1) c := hX 7 (Nat.le_of_ble_eq_true rfl)
          refine H3.step_run (.inr ⟨3, 20, false, rfl, rfl, eg⟩) ?_
          clear hX hd
          go_simp
          exact hK _ _ rfl trivial (GV.of (by decide) (fun u h => by cases h; rfl))
        · intro listed ys X W1 hsz hsd hi2 hall hX hI hd K hK
          subst hI
          have eg : X.tmps.getD 20 undef = .bool false := (hX 20 (Nat.le_of_ble_eq_true rfl)).trans (GV.val (hd ⟨3, .guard⟩ (by simp) rfl) (by decide) rfl)
          have e7 : X.tmps.getD 7 undef = .slice (some ⟨q, 0, none⟩) (k + 1) c := hX 7 (Nat.le_of_ble_eq_true rfl)
          refine H3.step_run (.inr ⟨3, 20, false, rfl, rfl, eg⟩) ?_
          clear hX hd
          go_simp
          exact hK _ _ rfl trivial (GV.of (by decide) (fun u h => by cases h; rfl))
        · intro listed ys X W1 hsz hsd hi2 hall hX hI hd K hK
          subst hI
          have eg : X.tmps.getD 20 undef = .bool false := (hX 20 (Nat.le_of_ble_eq_true rfl)).trans (GV.val (hd ⟨3, .guard⟩ (by simp) rfl) (by decide) rfl)
          have e22 : X.tmps.getD 22 undef = .slice (some ⟨q, 0, none⟩) (k + 1) c := (hX 22 (Nat.le_of_ble_eq_true rfl)).trans (GV.val (hd ⟨5, .data⟩ (by simp) rfl) (by decide) rfl)
          refine H3.step_run (.inr ⟨3, 20, false, rfl, rfl, eg⟩) ?_
          clear hX hd
          go_simp
          exact hK _ _ rfl trivial (GV.of (by decide) (fun u h => by cases h; rfl))
        · intro listed ys X W1 hsz hsd hi2 hall hX hI hd K hK
          subst hI
          have eg : X.tmps.getD 20 undef = .bool false := (hX 20 (Nat.le_of_ble_eq_true rfl)).trans (GV.val (hd ⟨3, .guard⟩ (by simp) rfl) (by decide) rfl)
          have e23 : X.tmps.getD 23 undef = .int .i64 ((k + 1 : Nat) : Int) := (hX 23 (Nat.le_of_ble_eq_true rfl)).trans (GV.val (hd ⟨6, .data⟩ (by simp) rfl) (by decide) rfl)
          refine H3.step_run (.inr ⟨3, 20, false, rfl, rfl, eg⟩) ?_
          clear hX hd
          go_simp
          exact hK _ _ rfl trivial (GV.of (by decide) (fun u h => by cases h; rfl))
        · intro listed ys X W1 hsz hsd hi2 hall hX hI hd K hK
          subst hI
          have eg : X.tmps.getD 20 undef = .bool false := (hX 20 (Nat.le_of_ble_eq_true rfl)).trans (GV.val (hd ⟨3, .guard⟩ (by simp) rfl) (by decide) rfl)
          have e21 : X.tmps.getD 21 undef = .slice (some ⟨q, 0, none⟩) (k + 1) c := (hX 21 (Nat.le_of_ble_eq_true rfl)).trans (GV.val (hd ⟨4, .data⟩ (by simp) rfl) (by decide) rfl)
          have e24 : X.tmps.getD 24 undef = .int .i64 (k : Int) := (hX 24 (Nat.le_of_ble_eq_true rfl)).trans (GV.val (hd ⟨7, .data⟩ (by simp) rfl) (by decide) rfl)
          refine H3.step_run (.inr ⟨3, 20, false, rfl, rfl, eg⟩) ?_
          clear hX hd
          go_simp
          exact hK _ _ rfl trivial (GV.of (by decide) (fun u h => by cases h; rfl))
        · intro listed ys X W1 hsz hsd hi2 hall hX hI hd K hK
          subst hI
          have eg : X.tmps.getD 20 undef = .bool false := (hX 20 (Nat.le_of_ble_eq_true rfl)).trans (GV.val (hd ⟨3, .guard⟩ (by simp) rfl) (by decide) rfl)
          have e25 : X.tmps.getD 25 undef = .pointer (some ⟨q, k, none⟩) := (hX 25 (Nat.le_of_ble_eq_true rfl)).trans (GV.val (hd ⟨8, .data⟩ (by simp) rfl) (by decide) rfl)
          refine H3.step_run (.inr ⟨3, 20, false, rfl, rfl, eg⟩) ?_
          clear hX hd
          go_simp
          exact hK _ _ rfl trivial (GV.of (by decide) (fun u h => by cases h; rfl))
        · intro listed ys X W1 hsz hsd hi2 hall hX hI hd K hK
          subst hI
          have eg : X.tmps.getD 20 undef = .bool false := (hX 20 (Nat.le_of_ble_eq_true rfl)).trans (GV.val (hd ⟨3, .guard⟩ (by simp) rfl) (by decide) rfl)
          have e5 : X.tmps.getD 5 undef = .pointer (some ⟨w.heap.size + 1, 0, none⟩) := hX 5 (Nat.le_of_ble_eq_true rfl)
          refine H3.step_run (.inr ⟨3, 20, false, rfl, rfl, eg⟩) ?_
          clear hX hd
          go_simp
          exact hK _ _ rfl trivial (GV.of (by decide) (fun u h => by cases h; rfl))
        · intro listed ys X W1 hsz hsd hi2 hall hX hI hd K hK
          subst hI
          have eg : X.tmps.getD 20 undef = .bool false := (hX 20 (Nat.le_of_ble_eq_true rfl)).trans (GV.val (hd ⟨3, .guard⟩ (by simp) rfl) (by decide) rfl)
          have e26 : X.tmps.getD 26 undef = .int .i64 (la : Int) := (hX 26 (Nat.le_of_ble_eq_true rfl)).trans (GV.val (hd ⟨9, .data⟩ (by simp) rfl) (by decide) rfl)
          have e27 : X.tmps.getD 27 undef = .int .i64 (at_ : Int) := (hX 27 (Nat.le_of_ble_eq_true rfl)).trans (GV.val (hd ⟨10, .data⟩ (by simp) rfl) (by decide) rfl)
          refine H3.step_run (.inr ⟨3, 20, false, rfl, rfl, eg⟩) ?_
          clear hX hd
          go_simp
          exact hK _ _ rfl trivial (GV.of (by decide) (fun u h => by cases h; rfl))
        · intro listed ys X W1 hsz hsd hi2 hall hX hI hd K hK
          subst hI
          have e20 : X.tmps.getD 20 undef = .bool false := (hX 20 (Nat.le_of_ble_eq_true rfl)).trans (GV.val (hd ⟨3, .data⟩ (by simp) rfl) (by decide) rfl)
          have e28 : X.tmps.getD 28 undef = .bool ((la : Int) != (at_ : Int)) := (hX 28 (Nat.le_of_ble_eq_true rfl)).trans (GV.val (hd ⟨11, .data⟩ (by simp) rfl) (by decide) rfl)
          refine H3.step_run (.inl rfl) ?_
          clear hX hd
          go_simp
          exact hK _ _ rfl trivial (GV.of (by decide) (fun u h => by cases h; rfl))
      case fin =>
        intro listed ys W1 hall hI hV
        subst hI
        have h12 : ys 12 = .bool ((la : Int) != (at_ : Int)) := GV.val (hV 12 (by decide) rfl) (by decide) rfl
        clear hV hall
        by_cases hin : (pre.any fun y => decide (y = x)) = true
        · have hb : ((la : Int) != (at_ : Int)) = false := by rw [HLS.out.2 hin]; simp
          rw [hb] at h12
          have HN := HNO hin
          clear hb hin HLS HNO HNX
          simp only [H3.putsFrom]
          simp only [h12, Act.put, List.setIfInBounds_toArray, List.set_cons_succ, List.set_cons_zero]
          gi_wp2
          exact HN.out
        · have hb : ((la : Int) != (at_ : Int)) = true := by
            have : ¬ la = at_ := fun e => hin (HLS.out.1 e)
            have : ¬ (la : Int) = (at_ : Int) := by omega
            simpa using this
          rw [hb] at h12
          have HNX := HNX (Bool.eq_false_iff.2 hin)
          clear hb hin HLS HNO
          simp only [H3.putsFrom]
          simp only [h12, Act.put, List.setIfInBounds_toArray, List.set_cons_succ, List.set_cons_zero]
          gi_wp2_with fail
          clear ca cb e0 e1 e2 h12 hlast d1 d2 d3 d4 d5
          refine H3.wpIn_region_flow (fun _ => trivial) (by kernel_rfl) (PS W.drew.drew pb m f x (.slice (some ⟨q, 0, none⟩) (k + 1) c) ((k + 1) + 1) (ints (putF F at_ pre x) ++ [.int .i64 (at_ : Int)])) (fun i _ W1 W2 => i = 8 ∨ i = 9 ∨ Lay W1 W2) (GV [some (.pointer (some ⟨gb, 0, none⟩)), some (.pointer (some ⟨gb, 0, none⟩)), some (.pointer (some ⟨gb, 2, none⟩)), some (.map (some pb)), some (.string x), some (.slice (some ⟨q, 0, none⟩) (k + 1) c), some (.int .i64 (at_ : Int)), none, none, none] [7] (fun _ v w => OneAt at_ v w)) (fun _ => false) (by kernel_rfl) (by kernel_rfl) ?hst ⟨Keep.refl _ _, fun _ => Keep.refl _ _, (fun h => by cases h), fun _ => HMP.out, (fun h => by cases h)⟩ ?step ?fin
          case hst =>
            intro i j ys v w1 w2 hij hanc hned hV hR
            by_cases hj : j = 7
            · subst hj
              rcases hR with rfl | rfl | hR
              · cases hned.symm.trans (by kernel_rfl : _ = false)
              · cases hned.symm.trans (by kernel_rfl : _ = false)
              · exact GV.keep (fun _ _ _ _ h hb => h.below hb) hij hV (lay_below hR)
            · exact gvq_keep (by simpa using hj) hij hV
          case step =>
            refine ⟨?_, ?_, ?_, ?_, ?_, ?_, ?_, ?_, ?_, ?_, trivial⟩
            · intro listed ys X W1 hsz hsd hi2 hall hX hI hd K hK
              have e3 : X.tmps.getD 3 undef = .pointer (some ⟨w.heap.size, 0, none⟩) := hX 3 (Nat.le_of_ble_eq_true rfl)
              have cA := HCA.out W1 hI.k
              have HI := Lib.hid hI
              refine H3.step_run (.inl rfl) ?_
              clear hX hd hI
              go_simp
              exact hK _ _ (HI.out.other (Keep.refl _ _) (by decide) (by decide) _) (.inr (.inr (Keep.refl _ _))) (GV.of (by decide) (fun u h => by cases h; rfl))
            · intro listed ys X W1 hsz hsd hi2 hall hX hI hd K hK
              have e30 : X.tmps.getD 30 undef = .pointer (some ⟨gb, 0, none⟩) := (hX 30 (Nat.le_of_ble_eq_true rfl)).trans (GV.val (hd ⟨0, .data⟩ (by simp) rfl) (by decide) rfl)
              have HI := Lib.hid hI
              refine H3.step_run (.inl rfl) ?_
              clear hX hd hI
              go_simp
              exact hK _ _ (HI.out.other (Keep.refl _ _) (by decide) (by decide) _) (.inr (.inr (Keep.refl _ _))) (GV.of (by decide) (fun u h => by cases h; rfl))
            · intro listed ys X W1 hsz hsd hi2 hall hX hI hd K hK
              have e31 : X.tmps.getD 31 undef = .pointer (some ⟨gb, 0, none⟩) := (hX 31 (Nat.le_of_ble_eq_true rfl)).trans (GV.val (hd ⟨1, .data⟩ (by simp) rfl) (by decide) rfl)
              have HI := Lib.hid hI
              refine H3.step_run (.inl rfl) ?_
              clear hX hd hI
              go_simp
              exact hK _ _ (HI.out.other (Keep.refl _ _) (by decide) (by decide) _) (.inr (.inr (Keep.refl _ _))) (GV.of (by decide) (fun u h => by cases h; rfl))
            · intro listed ys X W1 hsz hsd hi2 hall hX hI hd K hK
              have e32 : X.tmps.getD 32 undef = .pointer (some ⟨gb, 2, none⟩) := (hX 32 (Nat.le_of_ble_eq_true rfl)).trans (GV.val (hd ⟨2, .data⟩ (by simp) rfl) (by decide) rfl)
              have cE := HCE.out W1 hI.k
              have HI := Lib.hid hI
              refine H3.step_run (.inl rfl) ?_
              clear hX hd hI
              go_simp
              exact hK _ _ (HI.out.other (Keep.refl _ _) (by decide) (by decide) _) (.inr (.inr (Keep.refl _ _))) (GV.of (by decide) (fun u h => by cases h; rfl))
            · intro listed ys X W1 hsz hsd hi2 hall hX hI hd K hK
              have e6 : X.tmps.getD 6 undef = .string x := hX 6 (Nat.le_of_ble_eq_true rfl)
              have HI := Lib.hid hI
              refine H3.step_run (.inl rfl) ?_
              clear hX hd hI
              go_simp
              exact hK _ _ (HI.out.other (Keep.refl _ _) (by decide) (by decide) _) (.inr (.inr (Keep.refl _ _))) (GV.of (by decide) (fun u h => by cases h; rfl))
            · intro listed ys X W1 hsz hsd hi2 hall hX hI hd K hK
              have e7 : X.tmps.getD 7 undef = .slice (some ⟨q, 0, none⟩) (k + 1) c := hX 7 (Nat.le_of_ble_eq_true rfl)
              have HI := Lib.hid hI
              refine H3.step_run (.inl rfl) ?_
              clear hX hd hI
              go_simp
              exact hK _ _ (HI.out.other (Keep.refl _ _) (by decide) (by decide) _) (.inr (.inr (Keep.refl _ _))) (GV.of (by decide) (fun u h => by cases h; rfl))
            · intro listed ys X W1 hsz hsd hi2 hall hX hI hd K hK
              have e5 : X.tmps.getD 5 undef = .pointer (some ⟨w.heap.size + 1, 0, none⟩) := hX 5 (Nat.le_of_ble_eq_true rfl)
              have cB := HCB.out W1 hI.k
              have HI := Lib.hid hI
              refine H3.step_run (.inl rfl) ?_
              clear hX hd hI
              go_simp
              exact hK _ _ (HI.out.other (Keep.refl _ _) (by decide) (by decide) _) (.inr (.inr (Keep.refl _ _))) (GV.of (by decide) (fun u h => by cases h; rfl))
            · intro listed ys X W1 hsz hsd hi2 hall hX hI hd K hK
              have e36 : X.tmps.getD 36 undef = .int .i64 (at_ : Int) := (hX 36 (Nat.le_of_ble_eq_true rfl)).trans (GV.val (hd ⟨6, .data⟩ (by simp) rfl) (by decide) rfl)
              have e36' : X.tmps[36]?.getD undef = .int .i64 (at_ : Int) := by rw [← Array.getD_eq_getD_getElem?]; exact e36
              have HI := Lib.hid hI
              refine H3.step_run (.inl rfl) ?_
              clear hX hd hI
              go_simp
              exact hK _ _ (HI.out.other ((Keep.refl _ _).alloc _) (by decide) (by decide) _) (.inr (.inr ((Keep.refl _ _).alloc _))) (GV.ofsp (by decide) (OneAt.new _ _))
            · intro listed ys X W1 hsz hsd hi2 hall hX hI hd K hK
              have hl := hI.a hi2
              have h9 := H3.not_yet hsd hi2 (c := 9) (by kernel_rfl)
              have hone := GV.spv (hd ⟨7, .data⟩ (by simp) rfl) (by decide)
              have e35 : X.tmps.getD 35 undef = .slice (some ⟨q, 0, none⟩) (k + 1) c := (hX 35 (Nat.le_of_ble_eq_true rfl)).trans (GV.val (hd ⟨5, .data⟩ (by simp) rfl) (by decide) rfl)
              have e37 : X.tmps.getD 37 undef = ys 7 := hX 37 (Nat.le_of_ble_eq_true rfl)
              obtain ⟨v', W2, hrun, hr, hk⟩ := run_append_rk EI (HRK.out W1 hl) (fun _ _ => trivial) 22 22 _ 1 [.int .i64 (at_ : Int)] (OneAt.src hone) (by have := HLN.out; omega) (by have := HLN.out; omega)
              have hs8 : 8 < listed.size := by rw [hsz]; decide
              refine H3.step_run (.inl rfl) ?_
              refine operIn_append13 (.tmp 35) (.tmp 37) 22 rfl e35 e37 hrun ?_
              refine hK _ _ ⟨Keep.trans hI.k (hk.into fun q _ h => .inr h), fun q => by simp [Array.getD, hs8] at q, fun _ => ?_, fun q => ?_, fun q => ?_⟩ (.inl rfl) (GV.of (by decide) (fun u h => by cases h))
              · rw [H3.upd_same]
                exact hr.mono fun q hq _ => hq.2.imp id fun h => Nat.le_trans hl.size h
              · exact (hI.c h9).carry (hk.block pb (hI.c h9).lt HNP.out)
              · rw [show (listed.setIfInBounds 8 true).getD 9 false = listed.getD 9 false from getD_set_ne false (by decide), h9] at q; cases q
            · intro listed ys X W1 hsz hsd hi2 hall hX hI hd K hK
              have h8 := hall ⟨8, .data⟩ (by simp) rfl
              have hc := hI.c hi2
              have hb := hI.b h8
              have e33 : X.tmps.getD 33 undef = .map (some pb) := (hX 33 (Nat.le_of_ble_eq_true rfl)).trans (GV.val (hd ⟨3, .data⟩ (by simp) rfl) (by decide) rfl)
              have e34 : X.tmps.getD 34 undef = .string x := (hX 34 (Nat.le_of_ble_eq_true rfl)).trans (GV.val (hd ⟨4, .data⟩ (by simp) rfl) (by decide) rfl)
              have e38 : X.tmps.getD 38 undef = ys 8 := hX 38 (Nat.le_of_ble_eq_true rfl)
              obtain ⟨W2, hrun, hm2, hk2⟩ := hc.store Tryz.underlying9 Tryz.underlying94 HML.out HXS.out (ys 8)
              have hs9 : 9 < listed.size := by rw [hsz]; decide
              refine H3.step_run (.inl rfl) ?_
              refine operIn_update13 (.tmp 33) (.tmp 34) (.tmp 38) 94 rfl e33 e34 e38 hrun ?_
              refine hK _ _ ⟨Keep.trans hI.k (hk2.into fun q _ h => .inl h), fun q => ?_, fun _ => ?_, fun q => by simp [Array.getD, hs9] at q, fun _ => ?_⟩ (.inr (.inl rfl)) (GV.of (by decide) (fun u h => by cases h))
              · rw [show (listed.setIfInBounds 9 true).getD 8 false = listed.getD 8 false from getD_set_ne false (by decide), h8] at q; cases q
              · rw [H3.upd_other _ _ (by decide)]
                exact hb.carry hk2.size fun q hg ha hlt => hk2.block q hlt fun e => by subst e; rcases hg with hg | hg; exact HNP.out hg; have := HPB.out; omega
              · rw [H3.upd_other _ _ (by decide)]
                exact hm2
          case fin =>
            intro listed ys W2 hall hI _
            have h8 := hI.b (hall 8 (by decide))
            have hd9 := hI.d (hall 9 (by decide))
            have hk2 := hI.k
            generalize ys 8 = v8 at h8 hd9
            have HN := Lib.hid (HNX.out v8 W2 h8 hd9 hk2)
            clear hall hI h8 hd9 hk2
            simp only [H3.putsFrom]
            simp only [Act.put, List.setIfInBounds_toArray, List.set_cons_succ, List.set_cons_zero]
            gi_wp2
            exact HN.out

  case done =>
    intro D We hlf
    obtain ⟨G', ⟨f, m, h0, hba, hbb, hbe, hmp, hrk, hap, hne, hG'⟩, hl, hg, hk, hD1, hD2, hD3⟩ := id hlf
    have hDP : pb ≠ D := fun e => hD2 (by rw [← e, hG']; exact .inr (.inr (.inr (.inl rfl))))
    have hDG : gb ≠ D := fun e => hD2 (by rw [← e, hG']; exact .inr (.inr (.inl rfl)))
    have hDD : w.heap.size + 3 ≤ D := by rw [← HSZ.out]; exact hD1
    have hp : H3.Keep (fun b => b = D) We (We.putObj D (.deferred none)) := (H3.Keep.refl _ _).put _ (fun _ => rfl)
    have hrows : ∀ s b, At (atK f s) b → (G b ∨ w.heap.size ≤ b) ∧ b ≠ D ∧ b < We.heap.size := fun s b ha => by
      have h1 : G' b := by rw [hG']; exact .inr (.inr (.inr (.inr ⟨s, ha⟩)))
      have h2 := ((hrk s).at ha).1
      refine ⟨?_, fun e => hD2 (e ▸ h1), hl b h1⟩
      rcases hg b h1 with (h3 | h3 | h3 | h3 | ⟨t, h3⟩) | h3
      · exact absurd h3 h2.1
      · exact absurd h3 h2.2.1
      · exact absurd h3 h2.2.2.1
      · exact absurd h3 h2.2.2.2
      · exact .inl (HBL.out t b h3).1
      · rw [HSZ.out] at h3; exact .inr (by omega)
    have hP : PlAt (fun b => G b ∨ w.heap.size ≤ b) (We.putObj D (.deferred none)) pb (n + line.size) (fun s => F s ++ if H3.hasB line s = true then [at_] else []) := by
      refine ⟨f, (hmp.carry (hp.block pb hmp.lt hDP)).mono (by have := HW.out; unfold H3.wordsB at this; omega), fun s => ?_, hap⟩
      have h1 := ((hrk s).carry hp.size fun b _ ha hlt => hp.block b hlt (hrows s b ha).2.1).mono (G' := fun b => G b ∨ w.heap.size ≤ b) fun b _ ha => (hrows s b ha).1
      exact h1
    have hK : H3.Keep (fun b => b = pb ∨ G b) w (We.putObj D (.deferred none)) := by
      have hk0 := HK1.out (fun _ => False)
      refine ⟨hp.os.trans (hk.os.trans hk0.os), hp.tape.trans (hk.tape.trans hk0.tape), hp.output.trans (hk.output.trans hk0.output), Nat.le_trans hk0.size (Nat.le_trans hk.size hp.size), fun b hb hn => ?_⟩
      have hbe' : b ≠ D := by omega
      have hb0 : b < W0.heap.size := Nat.lt_of_lt_of_le hb hk0.size
      by_cases e : b = gb
      · subst e
        exact (hp.block b hbe.lt hDG).trans (hbe.trans HC.out.symm)
      · refine (hp.block b (Nat.lt_of_lt_of_le hb0 hk.size) hbe').trans ((hk.block b hb0 fun h => ?_).trans (hk0.block b hb (fun h => h)))
        rcases h with h | h | h | h | ⟨t, h⟩
        · omega
        · omega
        · exact e h
        · exact hn (.inl h)
        · exact hn (.inr (HBL.out t b h).1)
    have HP := Lib.hid hP
    have HK := Lib.hid hK
    clear hP hK hrows hp hDD hDG hDP hG' hap hrk hmp hbe hbb hba h0
    gi_wp2
    refine ⟨by simp, .inl ⟨_, _, rfl, hlf.takes, ?_⟩⟩
    exact ⟨_, results_none rfl _ _ _, rfl, HP.out, HK.out⟩
  case stop =>
    intro D c pre We hpre hlf
    obtain ⟨G', h, _⟩ := hlf
    exact h.elim
end Go.Proofs.YtoobjjpheegmdaaGreat.E4
