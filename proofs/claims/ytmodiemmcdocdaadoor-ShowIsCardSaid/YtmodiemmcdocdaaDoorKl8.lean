/-
  HOW LONG A TOLD QUERY'S TEXT IS. No program in it.
-/
import Derived.Test.YtmodiemmcdocdaaDoorTxB
import Derived.Test.YtmodiemmcdocdaaDoorKd8
namespace Go.Proofs.YtmodiemmcdocdaaDoor
open Go.RowKit Go
open PX (tl tls)

theorem quote_two (l : List UInt8) : (LX.quote l).length ≤ 2 * l.length + 2 := by
  unfold LX.quote
  split
  · have := (LX.esc_len l).2
    simp only [List.length_cons, List.length_append, List.length_nil]
    omega
  · exact Nat.zero_le _

theorem leaf_cost {op : Int} {n t : ByteArray} (h : op ≤ 5) : (fText (.mk op n t [])).length + 7 ≤ tl (.mk op n t []) := by
  have h1 := quote_two t.data.toList
  have h2 : t.data.toList.length = t.size := (Lib.size_eq t).symm
  have h3 : n.data.toList.length = n.size := (Lib.size_eq n).symm
  have l4 : (PX.lts (PX.kT t.data.toList)) = LX.quote t.data.toList := by unfold PX.lts; rw [if_pos (show (PX.kT t.data.toList).1 = 4 from rfl)]; rfl
  have lN : (PX.lts (PX.kN n.data.toList)) = n.data.toList := by unfold PX.lts; rw [if_neg (by show ¬ 1 = 4; decide)]; rfl
  have lW : ∀ s, PX.lts (PX.kW s) = s := fun s => by unfold PX.lts; rw [if_neg (by show ¬ 2 = 4; decide)]; rfl
  have lS : ∀ s, PX.lts (PX.kS s) = s := fun s => by unfold PX.lts; rw [if_neg (by show ¬ 5 = 4; decide)]; rfl
  rw [PX.tl_leaf]
  unfold fText
  rw [PX.fsp]
  split
  · rw [PX.spell, PX.spell, lW]; simp [PX.wTrue]; omega
  split
  · rw [PX.spell, PX.spell, lW]; simp [PX.wFalse]; omega
  split
  · rw [PX.spell, PX.spell, PX.spell, lW, l4]
    simp [PX.wWord]
    omega
  split
  · rw [PX.spell, PX.spell, PX.spell, lW, l4]
    simp [PX.wHas]
    omega
  split
  · rw [PX.spell, PX.spell, PX.spell, PX.spell, PX.spell, lW, lN, lS, l4]
    simp [PX.wField, PX.wEq]
    omega
  split
  · omega
  split
  · omega
  · rw [PX.rsp]; simp [PX.spell]; omega

theorem kText_two (k : Ft) : (kText k).length ≤ (fText k).length + 2 := by
  unfold kText
  split
  · simp
  · omega
theorem sText_cost {w : List UInt8} (hw : w.length ≤ 3) : ∀ {l : List Ft}, (∀ k ∈ l, (fText k).length + 7 ≤ tl k) → (sText w l).length ≤ tls l
  | [], _ => by simp [sText]
  | k :: r, h => by
    have h1 := sText_cost hw (l := r) fun x hx => h x (by simp [hx])
    have h2 := h k (by simp)
    have h3 := kText_two k
    rw [sText, tls]
    simp only [List.length_append, List.length_cons]
    omega
theorem rText_cost {w : List UInt8} (hw : w.length ≤ 3) {l : List Ft} (h : ∀ k ∈ l, (fText k).length + 7 ≤ tl k) : (rText w l).length ≤ tls l := by
  cases l with
  | nil => simp [rText]
  | cons k r =>
    have h1 := sText_cost hw (l := r) fun x hx => h x (by simp [hx])
    have h2 := h k (by simp)
    have h3 := kText_two k
    rw [rText, tls, List.length_append]
    omega

theorem filter_cost : ∀ (m : Nat) (f : Ft), f.count ≤ m → PX.Can f → (fText f).length + 7 ≤ tl f
  | 0, .mk _ _ _ _, hn, _ => by rw [Ft.count] at hn; omega
  | m + 1, .mk op n t l, hn, hc => by
    rw [Ft.count] at hn
    by_cases h6 : 6 ≤ op
    · have h8 : op ≤ 8 := by
        rw [PX.Can] at hc
        rcases hc with ⟨h | h, _⟩ | ⟨h | h, _⟩ | ⟨h, _⟩ | ⟨h, _⟩ | ⟨h | h, _⟩ <;> omega
      obtain ⟨hne, hcs, _, htx⟩ := fText_of ⟨h6, h8⟩ hc
      have h1 : (rText (if op = 8 then PX.wOr else PX.wAnd) l).length ≤ tls l := rText_cost (by split <;> decide) fun k hk => filter_cost m k (by have := PX.count_mem hk; omega) (PX.Cans.mem hcs hk)
      rw [htx, List.length_append, tl]
      split <;> simp only [List.length_cons, List.length_nil] <;> omega
    · have hl : l = [] := by
        rw [PX.Can] at hc
        rcases hc with ⟨_, _, _, h⟩ | ⟨_, _, h⟩ | ⟨_, h⟩ | ⟨h, _⟩ | ⟨h | h, _⟩
        · exact h
        · exact h
        · exact h
        · omega
        · omega
        · omega
      subst hl
      exact leaf_cost (by omega)

mutual
theorem sm_cost (b : Nat) : ∀ f : Ft, tl f ≤ b → Sm b f
  | .mk op n t kids, h => by
    rw [tl] at h
    rw [Sm]
    exact ⟨by omega, by omega, sms_cost b kids (by omega)⟩
theorem sms_cost (b : Nat) : ∀ l : List Ft, tls l ≤ b → Sms b l
  | [], _ => by rw [Sms]; trivial
  | k :: r, h => by
    rw [tls] at h
    rw [Sms]
    exact ⟨sm_cost b k (by omega), sms_cost b r (by omega)⟩
end

/-- A query that was read can be written. -/
theorem read_wr {q : Qy} (h : PX.Read q) : Wr q := by
  have h1 := filter_cost _ q.fil (Nat.le_refl _) h.fil
  have h2 := h.cost
  have h3 := sm_cost 100000 q.fil (by omega)
  have f0 := h.f0
  have f1 := h.f1
  have t0 := h.t0
  have t1 := h.t1
  have l0 := h.l0
  have l1 := h.l1
  have hp := h.plen
  have hm := h.ms
  exact ⟨h.fil, h3, by omega, by omega, fun m hm => by have := (h.mat m hm).2.2.2; omega, by omega, by omega, by omega, by omega, by omega, by omega, by omega⟩

theorem mText_cost : ∀ l : List Mt, (∀ m ∈ l, m.name.size ≤ 1024 ∧ m.value.size ≤ 1024) → (mText l).length ≤ 4000 * l.length
  | [], _ => by simp [mText]
  | m :: r, h => by
    have h1 := mText_cost r (fun x hx => h x (by simp [hx]))
    obtain ⟨h2, h3⟩ := h m (by simp)
    have h4 := quote_two m.value.data.toList
    have h5 : m.value.data.toList.length = m.value.size := (Lib.size_eq _).symm
    have h6 : m.name.data.toList.length = m.name.size := (Lib.size_eq _).symm
    rw [mText, List.length_append, List.length_cons]
    unfold mText1
    split <;> simp only [List.length_append, List.length_cons, List.length_nil] <;> omega

theorem read_short {q : Qy} (h : PX.Read q) : (PX.spell (PX.qsp Lib.itoa q)).length ≤ 100000 := by
  have hw := read_wr h
  have h1 := itoa_short _ hw.src0 hw.src1
  have h2 := itoa_short _ hw.til0 hw.til1
  have h3 := itoa_short _ hw.lim0 hw.lim1
  have h4 := mText_cost q.mat fun m hm => ⟨(h.mat m hm).2.2.2.1, (h.mat m hm).2.2.2.2⟩
  have h5 := h.ms
  have h6 : (xText q.fil).length ≤ 44006 := by
    have := filter_cost _ q.fil (Nat.le_refl _) h.fil
    have := h.cost
    unfold xText
    split
    · simp
    · simp only [List.length_append, List.length_cons, List.length_nil]
      omega
  have h7 : (dText q.desc).length ≤ 5 := by
    unfold dText
    split <;> simp
  have h8 : (if q.page = ⟨#[]⟩ then [] else [32, 112, 97, 103, 101, 32] ++ LX.quote q.page.data.toList).length ≤ 3000 := by
    have h9 := quote_two q.page.data.toList
    have h10 : q.page.data.toList.length = q.page.size := (Lib.size_eq _).symm
    have := h.plen
    split
    · simp
    · simp only [List.length_append, List.length_cons, List.length_nil]
      omega
  rw [qsp_spell h.fil]
  unfold plainT hText lText
  simp only [List.length_append, List.length_cons, List.length_nil] at h8 ⊢
  omega

theorem made_fil (l : List Int) : (fText (Qy.query l).fil).length ≤ tB 3 := by
  have z : (⟨#[]⟩ : ByteArray).size ≤ 100 := by decide
  unfold Qy.query
  dsimp only
  split
  · exact Nat.le_trans (leaf_len z z) (by decide)
  · exact (make_wr l 3 _).2
theorem made_mats (l : List Int) : (Qy.query l).mat.length ≤ 2 := by
  have hk := Ft.next_lt (l := l) (n := 3) (p := (Ft.next l 20 (Ft.next l 8 (Ft.next l 2 (Ft.next l 20 0).2).2).2).2) (by decide)
  unfold Qy.query
  dsimp only
  rw [Qy.mats_length]
  omega
theorem made_mat (l : List Int) : ∀ (k p : Nat), ∀ m ∈ (Qy.mats l k p).1, m.name.size ≤ 1024 ∧ m.value.size ≤ 1024
  | 0, _, m, h => by simp [Qy.mats] at h
  | k + 1, p, m, h => by
    simp only [Qy.mats, List.mem_cons] at h
    rcases h with rfl | h
    · have h1 := key_small (Ft.next l 3 p).1
      have h2 := val_small (Ft.next l 4 (Ft.next l 3 (Ft.next l 3 p).2).2).1
      exact ⟨Nat.le_trans h1 (by decide), Nat.le_trans h2 (by decide)⟩
    · exact made_mat l k _ m h

/-- A made query's text is short. -/
theorem made_short (l : List Int) : (PX.spell (PX.qsp Lib.itoa (Qy.query l))).length ≤ 200000 := by
  have hw := query_wr l
  have h1 := itoa_short _ hw.src0 hw.src1
  have h2 := itoa_short _ hw.til0 hw.til1
  have h3 := itoa_short _ hw.lim0 hw.lim1
  have h4 := mText_cost (Qy.query l).mat (by unfold Qy.query; exact made_mat l _ _)
  have h5 := made_mats l
  have h6 : (xText (Qy.query l).fil).length ≤ 84000 := by
    have := made_fil l
    have e : tB 3 = 83900 := by decide
    unfold xText
    split
    · simp
    · simp only [List.length_append, List.length_cons, List.length_nil]
      omega
  have h7 : (dText (Qy.query l).desc).length ≤ 5 := by
    unfold dText
    split <;> simp
  rw [qsp_spell hw.can, if_pos (show (Qy.query l).page = ⟨#[]⟩ from rfl)]
  unfold plainT hText lText
  simp only [List.length_append, List.length_cons, List.length_nil]
  omega
end Go.Proofs.YtmodiemmcdocdaaDoor
