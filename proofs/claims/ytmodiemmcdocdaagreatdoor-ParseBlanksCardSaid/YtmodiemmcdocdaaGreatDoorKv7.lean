/-
  HOW MANY BLANKS STAND BETWEEN TOKENS CHANGES NOTHING: the law's walk.
-/
import Derived.Test.YtmodiemmcdocdaaGreatDoorMw7
import Derived.Test.YtmodiemmcdocdaaGreatDoorKn7
import Derived.Test.YtmodiemmcdocdaaGreatDoorKl8
namespace Go.Proofs.YtmodiemmcdocdaaGreatDoor.LX
open Go MW

theorem letters_says {t : Tok} {c : UInt8} {r : List UInt8} (h : t.letters = c :: r) : t.says.length ≤ t.letters.length := by
  unfold Tok.letters at h ⊢
  split
  · rename_i hk
    rw [if_pos hk] at h
    unfold quote at h ⊢
    split at h
    · rename_i hi
      rw [if_pos hi]
      have := (esc_len t.says).1
      simp only [List.length_cons, List.length_append, List.length_nil]
      omega
    · cases h
  · exact Nat.le_refl _

theorem toks_letters : ∀ (n : Nat) (l : List UInt8) (i : Nat) (ts : List Tok), l.length ≤ n → U8 l → toks i l = .ok ts → ∀ t ∈ ts, t.letters.length ≤ l.length ∧ t.says.length ≤ l.length := by
  intro n
  induction n with
  | zero =>
    intro l i ts h _ ht t hm
    obtain rfl := List.length_eq_zero_iff.1 (Nat.le_zero.1 h)
    rw [toks_nil] at ht
    cases ht
    simp at hm
  | succ n ih =>
    intro l i ts h hu ht t hmem
    cases l with
    | nil => exact ih [] i ts (by simp) hu ht t hmem
    | cons c r =>
      simp only [List.length_cons] at h
      by_cases hc : c = 32
      · subst hc
        rw [toks_blank] at ht
        have := ih r _ ts (by omega) (hu.tail (by decide)) ht t hmem
        simp only [List.length_cons]
        omega
      · cases hk : tok c r with
        | none => rw [toks_none hc hk] at ht; cases ht
        | some p =>
          obtain ⟨k, s, x, m⟩ := p
          have hm := tok_len hk
          rw [toks_some hc hk] at ht
          cases hr : toks (i + m) ((c :: r).drop m) with
          | error e => rw [hr] at ht; cases ht
          | ok ts2 =>
            rw [hr] at ht
            cases ht
            obtain ⟨r0, hl, htk, hu0, _⟩ := tok_back hk hu (i + 1)
            rcases List.mem_cons.1 hmem with rfl | hmem
            · have h1 : (Tok.letters ⟨k, s, x, i + 1⟩).length ≤ (c :: r).length := by
                rw [hl, ← htk, List.length_take]
                omega
              have h2 := letters_says hl
              exact ⟨h1, Nat.le_trans h2 h1⟩
            · have hu2 : U8 ((c :: r).drop m) := U8.strip (htk ▸ hu0) (by rw [List.take_append_drop]; exact hu)
              have := ih _ _ ts2 (by simp only [List.length_drop, List.length_cons]; omega) hu2 hr t hmem
              simp only [List.length_drop, List.length_cons] at this ⊢
              omega

theorem lex_letters {l : List UInt8} {ts : List Tok} (h : lex l = .ok ts) : ∀ t ∈ ts, t.letters.length ≤ 1024 ∧ t.says.length ≤ 1024 := by
  obtain ⟨h1, hu, ts', ht, rfl⟩ := lex_ok h
  intro t hm
  rcases List.mem_append.1 hm with hm | hm
  · have := toks_letters _ l 0 ts' (Nat.le_refl _) hu ht t hm
    omega
  · rw [List.mem_singleton] at hm
    subst hm
    exact ⟨Nat.zero_le _, Nat.zero_le _⟩

theorem glue_snoc (b : Nat) (t : Tok) : ∀ ts : List Tok, glue b (ts ++ [t]) = glue b ts ++ (t.letters ++ List.replicate b 32)
  | [] => by simp [glue]
  | x :: r => by simp only [List.cons_append, glue, glue_snoc b t r, List.append_assoc]

theorem glue_len (b : Nat) (hb : b ≤ 3) : ∀ ts : List Tok, (∀ t ∈ ts, t.letters.length ≤ 1024) → (glue b ts).length ≤ 1027 * ts.length
  | [], _ => by simp [glue]
  | x :: r, h => by
    have h1 := glue_len b hb r fun t ht => h t (by simp [ht])
    have h2 := h x (by simp)
    simp only [glue, List.length_append, List.length_replicate, List.length_cons]
    omega

theorem bare_at {ts ts' : List Tok} (h : ts'.map Tok.bare = ts.map Tok.bare) {i : Nat} (hi : i < ts.length) (hi' : i < ts'.length) : ts'[i].kind = ts[i].kind ∧ ts'[i].says = ts[i].says ∧ ts'[i].n = ts[i].n := by
  have h1 : (ts'.map Tok.bare)[i]'(by simpa using hi') = (ts.map Tok.bare)[i]'(by simpa using hi) := by simp only [h]
  rw [List.getElem_map, List.getElem_map] at h1
  unfold Tok.bare at h1
  simp only [Prod.mk.injEq] at h1
  exact h1

end Go.Proofs.YtmodiemmcdocdaaGreatDoor.LX

namespace Go.Proofs.YtmodiemmcdocdaaGreatDoor.PX
open Go LX

theorem spaced_kind : ∀ {l : List (Nat × K)}, Spaced l → ∀ p ∈ l, p.2.1 ≠ 0
  | (b, k) :: r, h, p, hp => by
    rw [Spaced] at h
    rcases List.mem_cons.1 hp with rfl | hp
    · rcases h.1 with h | h | h | h | h <;> (have := h.1; dsimp only; omega)
    · exact spaced_kind h.2.2 p hp

/-- A query's tokens, spelled with other blanks, are parsed as it. -/
theorem parse_glue {q : Qy} (hc : CanQ q) (ht : TOkQ q) (h1 : Num Lib.itoa q.src) (h2 : Num Lib.itoa q.til) (h3 : Num Lib.itoa q.lim) {ts : List Tok} (hl : LX.lex (spell (qsp Lib.itoa q)) = .ok ts) (b : Nat) (hb : 1 ≤ b) (hlen : (glue b ts).length ≤ 1024) : parse (glue b ts) = .ok q := by
  obtain ⟨us, h4, hr, he⟩ := lex_spell (sp_spaced (qsp_sp hc ht h1 h2 h3)) (lex_ok hl).1
  rw [hl] at h4
  cases h4
  obtain ⟨ts', h5, h6⟩ := lex_glue hl b hb hlen
  have hn : ts'.length = ts.length := by simpa using congrArg List.length h6
  have hat : ∀ i, i < ts.length → (tk ts' i).kind = (tk ts i).kind ∧ (tk ts' i).says = (tk ts i).says ∧ (tk ts' i).n = (tk ts i).n := fun i hi => by
    rw [tk_get hi, tk_get (by omega)]
    exact bare_at h6 hi (by omega)
  rw [qsp_map] at hr he
  have hq : (qtk Lib.itoa q).length < ts.length := by
    obtain ⟨_, _, r, _, rfl⟩ := lex_ok hl
    have h7 := hr.1
    rcases Nat.lt_or_ge (qtk Lib.itoa q).length (r ++ [(⟨0, [], 0, (spell (qsp Lib.itoa q)).length + 1⟩ : Tok)]).length with h | h
    · exact h
    · exfalso
      have h8 : (qtk Lib.itoa q).length = r.length + 1 := by
        simp only [List.length_append, List.length_singleton, Nat.zero_add] at h h7
        omega
      have h9 := hr.2 r.length (by omega)
      rw [Nat.zero_add, tk_get (by simp), List.getElem_append_right (Nat.le_refl _)] at h9
      have hk := h9.1
      simp only [Nat.sub_self, List.getElem_singleton] at hk
      have hall : ∀ k ∈ qtk Lib.itoa q, k.1 ≠ 0 := fun k hk => by
        rw [← qsp_map] at hk
        obtain ⟨p, hp, rfl⟩ := List.mem_map.1 hk
        exact spaced_kind (sp_spaced (qsp_sp hc ht h1 h2 h3)) p hp
      exact hall _ (List.getElem_mem _) hk.symm
  have hr' : Runs ts' 0 (qtk Lib.itoa q) := ⟨by omega, fun j hj => by
    have h7 := hr.2 j hj
    rw [Nat.zero_add] at h7 ⊢
    obtain ⟨e1, e2, e3⟩ := hat j (by omega)
    exact ⟨e1.trans h7.1, e2.trans h7.2.1, e3.trans h7.2.2⟩⟩
  unfold parse
  rw [h5]
  exact query_reads hc hr' ((hat _ hq).1.trans he)
end Go.Proofs.YtmodiemmcdocdaaGreatDoor.PX

namespace Go.Proofs.YtmodiemmcdocdaaGreatDoor
open Go.RowKit Go
open PX (tk isT)

theorem three (b : Nat) (h0 : 1 ≤ b) (h : b ≤ 3) : ((⟨#[32, 32, 32]⟩ : ByteArray).extract 0 b).data.toList = List.replicate b 32 := by
  have hb : b = 1 ∨ b = 2 ∨ b = 3 := by omega
  rcases hb with rfl | rfl | rfl <;> rfl

theorem add_bytes (a b : ByteArray) : (a ++ b).data.toList = a.data.toList ++ b.data.toList := by simp

/-- A made query's text, glued again. -/
theorem made_glue (l : List Int) {ts : List LX.Tok} (hl : LX.lex (PX.spell (PX.qsp Lib.itoa (Qy.query l))) = .ok ts) (b : Nat) (hb : 1 ≤ b) (hlen : (LX.glue b ts).length ≤ 1024) : PX.parse (LX.glue b ts) = .ok (Qy.query l) := by
  have hc := PX.query_can l
  have b1 := hc.f0
  have b2 := hc.t1
  have b3 := hc.ft
  have b4 := hc.l0
  have b5 := hc.l1
  exact PX.parse_glue hc (PX.query_tok l) (PX.num_it _ (by omega) (by omega)) (PX.num_it _ (by omega) (by omega)) (PX.num_it _ (by omega) (by omega)) hl b hb hlen

set_option maxHeartbeats 8000000 in
set_option maxRecDepth 100000 in
theorem blanks_walk (l : List Int) (v : Value) (n : Int) (w : World) (h : IntsAt w v l) (hT : Tabs w) : Calls Tryz.prog 7 #[v, .int .i64 n] w fun e w' => e = .returned (.bool true) ∧ Below w.heap.size w w' := by
  have HA := Lib.hid (alive_own w hT)
  have HT := Lib.hid hT
  have HI := Lib.hid h
  obtain ⟨a, cap, rfl, hl63, _⟩ := id h
  clear hT h
  by_cases hg : 300 < l.length ∨ n < 1 ∨ 3 < n
  · have hg' : decide (300 < (l.length : Int)) = true ∨ (decide (300 < (l.length : Int)) = false ∧ decide (n < 1) = true) ∨ (decide (300 < (l.length : Int)) = false ∧ decide (n < 1) = false ∧ decide (3 < n) = true) := by
      simp
      omega
    rcases hg' with hd | ⟨hd, hd1⟩ | ⟨hd, hd1, hd2⟩
    all_goals
      go_enter Tryz.func7, Tryz.ntmps7
      go_wp2_with (go_at_call 10; refine HA.out.mono ?_; rintro e w1 ⟨rfl, hb1⟩)
      go_ret
      exact ⟨rfl, hb1⟩
  obtain ⟨b, rfl⟩ := Int.eq_ofNat_of_zero_le (by omega : 0 ≤ n)
  have hb1 : 1 ≤ b := by omega
  have hb3 : b ≤ 3 := by omega
  have d0 : decide (300 < (l.length : Int)) = false := by simp; omega
  have d1 : decide ((b : Int) < 1) = false := by simp; omega
  have d2 : decide (3 < (b : Int)) = false := by simp; omega
  clear hg
  go_enter Tryz.func7, Tryz.ntmps7
  go_wp2_with fail
  refine HA.out.mono ?_
  rintro e w1 ⟨rfl, hbz⟩
  have HB1 := Lib.hid hbz
  have HI1 := Lib.hid (IntsAt.below HI.out hbz)
  clear hbz HA HI
  have HQA := Lib.hid (query_any l w1 _ HI1.out)
  go_wp2_with fail
  refine HQA.out.mono ?_
  rintro e w2 ⟨vq, rfl, ⟨mv, kv, rfl, hm, hk⟩, hl2⟩
  have hwr := query_wr l
  have hsh := made_short l
  have hpm := fun ts (hts : LX.lex _ = .ok ts) => made_glue l hts b hb1
  generalize Qy.query l = q at hm hk hwr hpm hsh
  have HSH := Lib.hid hsh
  clear hsh
  obtain ⟨am, cm, rfl, _⟩ := id hm
  obtain ⟨ak, ck, rfl⟩ := hk.shape
  simp only [Qy.val]
  have hl3 : Lay w2 (w2.alloc (.cells #[.int .i64 q.src, .int .i64 q.til, .slice am q.mat.length cm, .int .i64 q.fil.op, .string q.fil.name, .string q.fil.text, .slice ak q.fil.kids.length ck, .bool q.desc, .int .i64 q.lim, .string q.page] 28)) := (Keep.refl _ w2).alloc _
  have HB3 := Lib.hid (HB1.out.trans ((hl2.below.trans (hl3.below.mono hl2.size)).mono HB1.out.size))
  have HA3 : Hid (CB (w2.alloc (.cells #[.int .i64 q.src, .int .i64 q.til, .slice am q.mat.length cm, .int .i64 q.fil.op, .string q.fil.name, .string q.fil.text, .slice ak q.fil.kids.length ck, .bool q.desc, .int .i64 q.lim, .string q.page] 28)) w2.heap.size 28 #[.int .i64 q.src, .int .i64 q.til, .slice am q.mat.length cm, .int .i64 q.fil.op, .string q.fil.name, .string q.fil.text, .slice ak q.fil.kids.length ck, .bool q.desc, .int .i64 q.lim, .string q.page]) := Lib.hid (CB.new w2 28 _)
  have HM3 := Lib.hid (hm.lay hl3)
  have HK3 := Lib.hid (KsAt.below hl3.below _ _ hk)
  have HWR := Lib.hid hwr
  have HPM := Lib.hid hpm
  clear hl2 hl3 hm hk hwr hpm HQA HI1
  go_upto_region 6 with fail
  revert HB3 HA3 HM3 HK3
  generalize w2.alloc (.cells #[.int .i64 q.src, .int .i64 q.til, .slice am q.mat.length cm, .int .i64 q.fil.op, .string q.fil.name, .string q.fil.text, .slice ak q.fil.kids.length ck, .bool q.desc, .int .i64 q.lim, .string q.page] 28) = w3
  generalize w2.heap.size = A
  intro HB3 HA3 HM3 HK3
  have HTQ := Lib.hid (textQuery_any q HWR.out w3 am cm ak ck HM3.out HK3.out (HT.out.next HB3.out))
  have a0 := HA3.out.cell 0
  have a1 := HA3.out.cell 1
  have a2 := HA3.out.cell 2
  have a3 := HA3.out.cell 3
  have a4 := HA3.out.cell 4
  have a5 := HA3.out.cell 5
  have a6 := HA3.out.cell 6
  have a7 := HA3.out.cell 7
  have a8 := HA3.out.cell 8
  have a9 := HA3.out.cell 9
  go_wp2_with fail
  clear a0 a1 a2 a3 a4 a5 a6 a7 a8 a9
  refine HTQ.out.mono ?_
  rintro e w4 ⟨T, rfl, hTT, hb4⟩
  have HTT := Lib.hid hTT
  have hAl := HA3.out.lt
  have HA4 := Lib.hid (HA3.out.below hb4 hAl)
  have HB4 := Lib.hid (HB3.out.trans (hb4.mono HB3.out.size))
  have HQ4 : Hid (QAt w4 (.agg #[.int .i64 q.src, .int .i64 q.til, .slice am q.mat.length cm, .int .i64 q.fil.op, .string q.fil.name, .string q.fil.text, .slice ak q.fil.kids.length ck, .bool q.desc, .int .i64 q.lim, .string q.page]) q) := Lib.hid ⟨_, _, rfl, MsAt.below HM3.out hb4, KsAt.below hb4 _ _ HK3.out⟩
  clear hTT hb4 HTQ hAl
  have hTS : T.size ≤ 200000 := by rw [Lib.size_eq, HTT.out]; exact HSH.out
  cases hlx : LX.lex T.data.toList with
  | error p =>
    have hz := PX.lex_nz _ p hlx
    have z2 : ((p.1 : Int) != 0) = true := by simp; omega
    have HL := ref_err rfl (by omega) hlx w4 (HT.out.next HB4.out).utf
    clear hlx hz
    go_wp2_with fail
    refine HL.mono ?_
    rintro e w5 ⟨rfl, hb5⟩
    have HB5 := Lib.hid (HB4.out.trans (hb5.mono HB4.out.size))
    clear hb5 HL
    go_wp2_with fail
    go_ret
    exact ⟨rfl, HB5.out⟩
  | ok ts =>
    have HL := ref_ok rfl (by omega) hlx w4 (HT.out.next HB4.out).utf
    have hne := lex_some hlx
    have hcnt := LX.lex_count hlx
    have HLET := Lib.hid (LX.lex_letters hlx)
    have HGP := Lib.hid (HPM.out ts (by rw [← HTT.out]; exact hlx))
    have H3 := Lib.hid (three b hb1 hb3)
    clear hlx
    go_wp2_with fail
    refine HL.mono ?_
    rintro e w5 ⟨v5, rfl, hrk, hb5⟩
    have htk := TkAt.of hrk hne
    have HB5 := Lib.hid (HB4.out.trans (hb5.mono HB4.out.size))
    have HQ5 := Lib.hid (QAt.below HQ4.out hb5)
    have HA5 := Lib.hid (HA4.out.below hb5 HA4.out.lt)
    obtain ⟨g, cap, rfl, hgl, _⟩ := id htk
    have HTK := Lib.hid htk
    clear hrk hb5 htk HL HQ4 HA4 HPM
    go_wp2_with fail
    go_loopw [9, 41] (fun vt vi wr => ∃ (k : Nat) (t : ByteArray), vi = .int .i64 k ∧ vt = .string t ∧ k ≤ ts.length ∧ Hid (t.data.toList = LX.glue b (ts.take k)) ∧ Hid (Below w5.heap.size w5 wr)) (fun _ vi _ => ts.length - (intOf vi).toNat)
    case atStart => exact ⟨0, ⟨#[]⟩, rfl, rfl, Nat.zero_le _, Lib.hid (by simp [LX.glue]), Lib.hid (Below.refl _ _)⟩
    case round =>
      obtain ⟨k, t, rfl, rfl, hk, HTL, HB⟩ := hrel
      have htl : t.size ≤ 1027 * 1025 := by
        have h1 := LX.glue_len b hb3 (ts.take k) fun x hx => (HLET.out x (List.mem_of_mem_take hx)).1
        have h2 : (ts.take k).length ≤ 1025 := by rw [List.length_take]; omega
        rw [Lib.size_eq, HTL.out]
        exact Nat.le_trans h1 (Nat.mul_le_mul_left _ h2)
      by_cases hlt : k < ts.length
      · obtain ⟨g', cap', hv, hgw, hc⟩ := HTK.out.below HB.out
        simp only [Value.slice.injEq, Option.some.injEq, Addr.mk.injEq, and_true, true_and] at hv
        obtain ⟨rfl, rfl⟩ := hv
        obtain ⟨x0, x1, x2, x3⟩ := hc k hlt
        have hlet := HLET.out ts[k] (List.getElem_mem hlt)
        have HSN : Hid (LX.glue b (ts.take (k + 1)) = LX.glue b (ts.take k) ++ (ts[k].letters ++ List.replicate b 32)) := Lib.hid (by
          rw [List.take_succ_eq_append_getElem hlt, LX.glue_snoc])
        generalize ts[k] = x at x0 x1 x2 x3 hlet HSN
        obtain ⟨kd, says, nn, pl⟩ := x
        simp only at x0 x1 x2 x3 hlet
        obtain ⟨z, hz⟩ : ∃ z : ByteArray, z = ⟨says.toArray⟩ := ⟨_, rfl⟩
        have HZ : Hid (z.data.toList = says) := Lib.hid (by rw [hz])
        rw [← hz] at x1
        have hzs : z.size ≤ 1024 := by rw [Lib.size_eq, HZ.out]; exact hlet.2
        have hbs : ((⟨#[32, 32, 32]⟩ : ByteArray).extract 0 b).size = b := by rw [Lib.size_eq, H3.out, List.length_replicate]
        clear hc hz
        have HBA := Lib.hid (HB.out.alloc HB.out.size (.cells #[.int .i64 (kd : Nat), .string z, .int .i64 nn, .int .i64 (pl : Nat)] 46))
        by_cases h4 : kd = 4
        · subst h4
          have HSN2 := HSN.out
          simp only [LX.Tok.letters, if_true] at HSN2 hlet
          obtain ⟨Q, hQ⟩ : ∃ Q : ByteArray, Q = ⟨(LX.quote says).toArray⟩ := ⟨_, rfl⟩
          have HQ : Hid (Q.data.toList = LX.quote says) := Lib.hid (by rw [hQ])
          have hqs : Q.size ≤ 1024 := by rw [Lib.size_eq, HQ.out]; exact hlet.1
          have CQ := fun W hT => quote_any z (by omega) W hT
          rw [HZ.out, ← hQ] at CQ
          clear hQ HSN
          go_wp2_with fail
          refine (CQ _ (HT.out.next (HB5.out.trans (HBA.out.mono HB5.out.size))).utf).mono ?_
          rintro e w6 ⟨rfl, hb6⟩
          have HB6 := Lib.hid (HBA.out.trans (hb6.mono HBA.out.size))
          clear hb6 CQ
          go_wp2_with fail
          go_roundw
          case rel =>
            refine ⟨k + 1, _, by go_num, rfl, by omega, Lib.hid ?_, HB6⟩
            rw [add_bytes, add_bytes, HTL.out, HQ.out, H3.out, HSN2, List.append_assoc]
          case measure => simp [intOf]; omega
        · have h4' : ((kd : Int) == 4) = false := by simp; omega
          have HSN2 := HSN.out
          simp only [LX.Tok.letters, if_neg h4] at HSN2
          clear HSN
          go_wp2_with fail
          go_roundw
          case rel =>
            refine ⟨k + 1, _, by go_num, rfl, by omega, Lib.hid ?_, HBA⟩
            rw [add_bytes, add_bytes, HTL.out, HZ.out, H3.out, HSN2, List.append_assoc]
          case measure => simp [intOf]; omega
      · obtain rfl : k = ts.length := by omega
        have HTG : Hid (t.data.toList = LX.glue b ts) := Lib.hid (by rw [HTL.out, List.take_length])
        have HB4 := Lib.hid (HB5.out.trans (HB.out.mono HB5.out.size))
        clear HTL
        by_cases h1024 : 1024 < t.size
        · have hd1024 : decide (1024 < (t.size : Int)) = true := by simp; omega
          go_wp2_with fail
          go_ret
          exact ⟨rfl, HB4.out⟩
        have hd1024 : decide (1024 < (t.size : Int)) = false := by simp; omega
        have hpp := HGP.out (by rw [← HTG.out, ← Lib.size_eq]; omega)
        have HCN := Lib.hid (parse_count hpp)
        have HP := Lib.hid (parse_ok HTG.out (by omega) hpp wr (HT.out.next HB4.out))
        have HQ4 := Lib.hid (QAt.below HQ5.out HB.out)
        have HA4 := Lib.hid (HA5.out.below HB.out HA5.out.lt)
        clear hpp h1024 HQ5 HA5 HB5 HTK HLET hgl
        go_wp2_with fail
        refine HP.out.mono ?_
        rintro e w5 ⟨bm, dm, bk, dk, rfl, hm, hk, hb5⟩
        simp only [Qy.val]
        have HQ5 := Lib.hid (QAt.below HQ4.out hb5)
        have HA5 := Lib.hid (HA4.out.below hb5 HA4.out.lt)
        have HB5 := Lib.hid (HB4.out.trans (hb5.mono HB4.out.size))
        have HR5 : Hid (QAt w5 (.agg #[.int .i64 q.src, .int .i64 q.til, .slice bm q.mat.length dm, .int .i64 q.fil.op, .string q.fil.name, .string q.fil.text, .slice bk q.fil.kids.length dk, .bool q.desc, .int .i64 q.lim, .string q.page]) q) := Lib.hid ⟨_, _, rfl, hm, hk⟩
        have hl6 : Lay w5 ((w5.alloc (.cells #[.int .i64 q.src, .int .i64 q.til, .slice bm q.mat.length dm, .int .i64 q.fil.op, .string q.fil.name, .string q.fil.text, .slice bk q.fil.kids.length dk, .bool q.desc, .int .i64 q.lim, .string q.page] 28)).alloc (.cells #[.int .i64 0, .int .i64 0] 31)) := ((Keep.refl _ w5).alloc _).alloc _
        have HA6 := Lib.hid (HA5.out.keep hl6 (fun h => h))
        have HB6 := Lib.hid (HB5.out.trans (hl6.below.mono HB5.out.size))
        have HC6 : Hid (CB ((w5.alloc (.cells #[.int .i64 q.src, .int .i64 q.til, .slice bm q.mat.length dm, .int .i64 q.fil.op, .string q.fil.name, .string q.fil.text, .slice bk q.fil.kids.length dk, .bool q.desc, .int .i64 q.lim, .string q.page] 28)).alloc (.cells #[.int .i64 0, .int .i64 0] 31)) w5.heap.size 28 #[.int .i64 q.src, .int .i64 q.til, .slice bm q.mat.length dm, .int .i64 q.fil.op, .string q.fil.name, .string q.fil.text, .slice bk q.fil.kids.length dk, .bool q.desc, .int .i64 q.lim, .string q.page]) := Lib.hid ((CB.new w5 28 _).keep ((Keep.refl (fun _ => False) _).alloc _) (fun h => h))
        have hf6 : CB ((w5.alloc (.cells #[.int .i64 q.src, .int .i64 q.til, .slice bm q.mat.length dm, .int .i64 q.fil.op, .string q.fil.name, .string q.fil.text, .slice bk q.fil.kids.length dk, .bool q.desc, .int .i64 q.lim, .string q.page] 28)).alloc (.cells #[.int .i64 0, .int .i64 0] 31)) (w5.heap.size + 1) 31 #[.int .i64 0, .int .i64 0] := by
          have := CB.new (w5.alloc (.cells #[.int .i64 q.src, .int .i64 q.til, .slice bm q.mat.length dm, .int .i64 q.fil.op, .string q.fil.name, .string q.fil.text, .slice bk q.fil.kids.length dk, .bool q.desc, .int .i64 q.lim, .string q.page] 28)) 31 #[.int .i64 0, .int .i64 0]
          rw [show (w5.alloc (.cells #[.int .i64 q.src, .int .i64 q.til, .slice bm q.mat.length dm, .int .i64 q.fil.op, .string q.fil.name, .string q.fil.text, .slice bk q.fil.kids.length dk, .bool q.desc, .int .i64 q.lim, .string q.page] 28)).heap.size = w5.heap.size + 1 by simp] at this
          exact this
        have HF6 := Lib.hid hf6
        have HS := Lib.hid (same_any q q ((w5.alloc (.cells #[.int .i64 q.src, .int .i64 q.til, .slice bm q.mat.length dm, .int .i64 q.fil.op, .string q.fil.name, .string q.fil.text, .slice bk q.fil.kids.length dk, .bool q.desc, .int .i64 q.lim, .string q.page] 28)).alloc (.cells #[.int .i64 0, .int .i64 0] 31)) _ _ (QAt.lay HQ5.out hl6) (QAt.lay HR5.out hl6) HCN.out HCN.out)
        clear hf6 hl6 hm hk hb5 HP
        go_upto_region 21 with fail
        revert HA6 HB6 HC6 HF6 HS
        generalize (w5.alloc (.cells #[.int .i64 q.src, .int .i64 q.til, .slice bm q.mat.length dm, .int .i64 q.fil.op, .string q.fil.name, .string q.fil.text, .slice bk q.fil.kids.length dk, .bool q.desc, .int .i64 q.lim, .string q.page] 28)).alloc (.cells #[.int .i64 0, .int .i64 0] 31) = w6
        generalize w5.heap.size + 1 = B
        generalize w5.heap.size = C
        intro HA6 HB6 HC6 HF6 HS
        have f0 := HF6.out.cell 0
        have f1 := HF6.out.cell 1
        have a0 := HA6.out.cell 0
        have a1 := HA6.out.cell 1
        have a2 := HA6.out.cell 2
        have a3 := HA6.out.cell 3
        have a4 := HA6.out.cell 4
        have a5 := HA6.out.cell 5
        have a6 := HA6.out.cell 6
        have a7 := HA6.out.cell 7
        have a8 := HA6.out.cell 8
        have a9 := HA6.out.cell 9
        have c0 := HC6.out.cell 0
        have c1 := HC6.out.cell 1
        have c2 := HC6.out.cell 2
        have c3 := HC6.out.cell 3
        have c4 := HC6.out.cell 4
        have c5 := HC6.out.cell 5
        have c6 := HC6.out.cell 6
        have c7 := HC6.out.cell 7
        have c8 := HC6.out.cell 8
        have c9 := HC6.out.cell 9
        go_wp2_with fail
        refine HS.out.mono ?_
        rintro e w7 ⟨b, rfl, hb, hl7⟩
        obtain rfl : b = true := by simpa using hb
        have HB7 := Lib.hid (HB6.out.trans (hl7.below.mono HB6.out.size))
        clear hb hl7
        go_wp2_with fail
        go_ret
        exact ⟨rfl, HB7.out⟩
end Go.Proofs.YtmodiemmcdocdaaGreatDoor
