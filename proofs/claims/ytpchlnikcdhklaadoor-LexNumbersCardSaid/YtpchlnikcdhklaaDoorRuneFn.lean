/-
  RUNES AND THEIR BYTES; A TEXT READ RUNE BY RUNE: no program in it.
-/
import Derived.Test.YtpchlnikcdhklaaDoorLx
import Derived.Lib.MapLaws
import Derived.Lib.RuneBytes
import Derived.Laws.Cover4
namespace Go.Proofs.YtpchlnikcdhklaaDoor.LX
open Go MW

theorem dec_L (l : List UInt8) : Lib.decodeL l = dec l := Lib.decodeL_N l

theorem enc_dec {l : List UInt8} (hl : l ≠ []) (h : bad l = false) {c n : Nat} (hd : dec l = (c, n)) : Lib.encodeRune (c : Int) = l.take n := by
  have hv : ¬ ((Lib.decodeL l).1 = 65533 ∧ (Lib.decodeL l).2 = 1) := fun ⟨a, b⟩ => by
    rw [dec_L] at a b
    unfold bad at h
    rw [a, b] at h
    simp at h
  have := Lib.encode_decode l hl hv
  rw [dec_L, hd] at this
  exact this

/-- The bytes of runes. -/
def enc (rs : List Nat) : List UInt8 := rs.flatMap fun r : Nat => Lib.encodeRune (r : Int)

theorem enc_snoc (rs : List Nat) (c : Nat) : enc (rs ++ [c]) = enc rs ++ Lib.encodeRune (c : Int) := by
  unfold enc
  rw [List.flatMap_append]
  simp

theorem u8_of (n m : Nat) (h : n = m) : UInt8.ofNat n = m.toUInt8 := by subst h; rfl

theorem encode_rune (n : Nat) : (Utf8.encode (n : Int)).data.toList = Lib.encodeRune (n : Int) := by
  have hb : ∀ (b : Nat) (z : Int), z = (b : Int) → UInt8.ofNat b = z.toNat.toUInt8 := fun b z h => by
    subst h
    rfl
  unfold Utf8.encode Lib.encodeRune
  by_cases hv : Utf8.valid (n : Int) = true
  · have hv' : n < 55296 ∨ (57344 ≤ n ∧ n ≤ 1114111) := by
      unfold Utf8.valid at hv
      simp at hv
      omega
    simp only [hv, if_true, Int.toNat_natCast]
    by_cases h1 : n < 128
    · rw [if_pos h1, Lib.encodeRuneZ_one (by omega) (by omega)]
      simp only [List.map_cons, List.map_nil]
      rw [← hb n _ rfl]
    rw [if_neg h1]
    by_cases h2 : n < 2048
    · rw [if_pos h2, Lib.encodeRuneZ_two (by omega) (by omega)]
      simp only [List.map_cons, List.map_nil]
      rw [← hb (192 + n / 64) _ (by omega), ← hb (128 + n % 64) _ (by omega)]
    rw [if_neg h2]
    by_cases h3 : n < 65536
    · rw [if_pos h3, Lib.encodeRuneZ_three (by omega)]
      simp only [List.map_cons, List.map_nil]
      rw [← hb (224 + n / 4096) _ (by omega), ← hb (128 + n / 64 % 64) _ (by omega), ← hb (128 + n % 64) _ (by omega)]
    · rw [if_neg h3, Lib.encodeRuneZ_four (by omega) (by omega)]
      simp only [List.map_cons, List.map_nil]
      rw [← hb (240 + n / 262144) _ (by omega), ← hb (128 + n / 4096 % 64) _ (by omega), ← hb (128 + n / 64 % 64) _ (by omega), ← hb (128 + n % 64) _ (by omega)]
  · have hv' : (55296 ≤ n ∧ n ≤ 57343) ∨ 1114111 < n := by
      unfold Utf8.valid at hv
      simp at hv
      omega
    rw [Lib.encodeRuneZ_bad (by omega)]
    simp only [hv, Bool.false_eq_true, if_false]
    rfl

theorem runes_fold (rs : List Nat) : ∀ s : ByteArray, ((rs.map fun r : Nat => (r : Int)).foldl (fun r n => r ++ Utf8.encode n) s).data.toList = s.data.toList ++ enc rs := by
  induction rs with
  | nil => intro s; simp [enc]
  | cons c r ih =>
    intro s
    rw [List.map_cons, List.foldl_cons, ih, ByteArray.data_append]
    have e : enc (c :: r) = Lib.encodeRune (c : Int) ++ enc r := by
      unfold enc
      rw [List.flatMap_cons]
    rw [e, ← encode_rune]
    simp

theorem runes_bytes (rs : List Nat) : runesBytes (rs.map fun r : Nat => (r : Int)) = ⟨(enc rs).toArray⟩ := by
  have h := runes_fold rs ByteArray.empty
  unfold runesBytes
  generalize ((rs.map fun r : Nat => (r : Int)).foldl (fun r n => r ++ Utf8.encode n) ByteArray.empty) = x at h
  have h' : x.data.toList = enc rs := by rw [h]; rfl
  rw [← h']

/-! ### A text, read rune by rune: 0 it goes on, 1 by what stands behind a stroke, 2 it is ended, 3 it is none -/

def stepN (st c : Nat) : Nat := if st = 1 ∧ (c = 34 ∨ c = 92) then 0 else if st = 1 ∨ c = 10 then 3 else if c = 92 then 1 else if c = 34 then 2 else 0

structure TI (l : List UInt8) (pos st : Nat) (rs : List Nat) : Prop where
  st1 : st ≤ 1
  u8 : U8 (l.drop pos)
  len : rs.length ≤ pos
  eq : text l = if st = 0 then (text (l.drop pos)).map (fun q => (enc rs ++ q.1, pos + q.2)) else (text (92 :: l.drop pos)).map fun q => (enc rs ++ q.1, pos + q.2 - 1)

theorem TI.start {l : List UInt8} (h : U8 l) : TI l 0 0 [] :=
  ⟨by omega, by rw [List.drop_zero]; exact h, Nat.le_refl _, by
    rw [if_pos rfl, List.drop_zero]
    cases text l with
    | none => rfl
    | some q => simp [enc]⟩

theorem TI.none {l : List UInt8} {pos st : Nat} {rs : List Nat} (h : TI l pos st rs) (hd : l.drop pos = []) : text l = .none := by
  rw [h.eq, hd]
  split
  · rfl
  · rw [text_esc0]; rfl

/-- What a rune says of the bytes that it stands for. -/
theorem rune_parts {l : List UInt8} (hl : l ≠ []) (hb : bad l = false) {c n : Nat} (hd : dec l = (c, n)) :
    (∃ b q, l = b :: q ∧ b.toNat = c ∧ c < 128 ∧ n = 1 ∧ Lib.encodeRune (c : Int) = [b]) ∨ (128 ≤ c ∧ (∀ x ∈ l.take n, 128 ≤ x.toNat) ∧ Lib.encodeRune (c : Int) = l.take n ∧ (l.take n).length = n) := by
  have he := enc_dec hl hb hd
  have hk := (dec_keep l hl hb).2
  have hle := dec_le l hl
  have hp := dec_pos l
  rw [hd] at hk hle hp
  simp only at hk hle hp
  rcases hk with ⟨b, q, rfl, hlt, h1⟩ | hhi
  · have h2 := dec_low b q hlt
    rw [hd] at h2
    simp only [Prod.mk.injEq] at h2
    obtain ⟨rfl, rfl⟩ := h2
    exact .inl ⟨b, q, rfl, rfl, hlt, rfl, by rw [he]; rfl⟩
  · refine .inr ⟨?_, hhi, he, by rw [List.length_take]; omega⟩
    cases l with
    | nil => exact absurd rfl hl
    | cons b q =>
      have hb128 : 128 ≤ b.toNat := hhi b (by
        obtain ⟨k, rfl⟩ : ∃ k, n = k + 1 := ⟨n - 1, by omega⟩
        simp)
      by_cases hc : c < 128
      · exfalso
        have e1 := he
        unfold Lib.encodeRune at e1
        rw [Lib.encodeRuneZ_one (by omega) (by omega)] at e1
        obtain ⟨k, rfl⟩ : ∃ k, n = k + 1 := ⟨n - 1, by omega⟩
        simp only [List.map_cons, List.map_nil, List.take_succ_cons, List.cons.injEq] at e1
        have := congrArg UInt8.toNat e1.1
        have h3 : ((c : Int).toNat.toUInt8).toNat = c := by
          rw [Int.toNat_natCast]
          show (UInt8.ofNat c).toNat = c
          rw [UInt8.toNat_ofNat']
          omega
        rw [h3] at this
        omega
      · omega

theorem byte_ne {b k : UInt8} {c : Nat} (hb : b.toNat = c) (h : c ≠ k.toNat) : b ≠ k := fun e => h (by rw [← hb, e])

theorem U8.first {l : List UInt8} (h : U8 l) (hl : l ≠ []) : bad l = false ∧ U8 (l.drop (dec l).2) := by
  cases h with
  | nil => exact absurd rfl hl
  | step _ h2 h3 => exact ⟨h2, h3⟩

theorem TI.next {l : List UInt8} {pos st : Nat} {rs : List Nat} (h : TI l pos st rs) (hl : l.drop pos ≠ []) {c n : Nat} (hd : dec (l.drop pos) = (c, n)) :
    (stepN st c = 0 → TI l (pos + n) 0 (rs ++ [c])) ∧ (stepN st c = 1 → TI l (pos + n) 1 rs) ∧ (stepN st c = 2 → text l = some (enc rs, pos + 1)) ∧ (stepN st c = 3 → text l = .none) := by
  have hu := h.u8
  have hp := dec_pos (l.drop pos)
  rw [hd] at hp
  simp only at hp
  obtain ⟨hb, hu3⟩ : bad (l.drop pos) = false ∧ U8 (l.drop (pos + n)) := by
    have h := hu.first hl
    rw [hd, List.drop_drop] at h
    exact h
  have hlen := h.len
  have hlen1 : (rs ++ [c]).length ≤ pos + n := by rw [List.length_append, List.length_singleton]; omega
  have heq := h.eq
  have hst := h.st1
  have drop1 : ∀ {b : UInt8} {q : List UInt8}, l.drop pos = b :: q → l.drop (pos + 1) = q := fun e => by
    rw [← List.drop_drop, e]
    rfl
  rcases rune_parts hl hb hd with ⟨b, q, e, hbc, hlt, rfl, hen⟩ | ⟨hge, hhi, hen, htl⟩
  · have hq := drop1 e
    have one : ∀ k, k < 256 → c = k → b = UInt8.ofNat k := fun k hk hc => UInt8.toNat_inj.1 (by rw [hbc, UInt8.toNat_ofNat', hc]; omega)
    by_cases h1 : st = 1
    · subst h1
      rw [if_neg (by decide), e] at heq
      by_cases hs : c = 34 ∨ c = 92
      · have hbs : b = 34 ∨ b = 92 := hs.imp (one 34 (by omega)) (one 92 (by omega))
        have e0 : stepN 1 c = 0 := if_pos ⟨rfl, hs⟩
        rw [text_esc, if_pos hbs, Option.map_map] at heq
        refine ⟨fun _ => ⟨by omega, hu3, hlen1, ?_⟩, by rw [e0]; simp, by rw [e0]; simp, by rw [e0]; simp⟩
        rw [heq, if_pos rfl, hq]
        congr 1
        funext x
        simp only [Function.comp, enc_snoc, hen, List.append_assoc, List.singleton_append, Prod.mk.injEq, true_and]
        omega
      · have e0 : stepN 1 c = 3 := by
          unfold stepN
          rw [if_neg (fun h => hs h.2), if_pos (.inl rfl)]
        refine ⟨by rw [e0]; simp, by rw [e0]; simp, by rw [e0]; simp, fun _ => ?_⟩
        rw [heq, text_esc, if_neg]
        · rfl
        · rintro (h | h)
          · exact hs (.inl (by rw [← hbc, h]; rfl))
          · exact hs (.inr (by rw [← hbc, h]; rfl))
    · obtain rfl : st = 0 := by omega
      rw [if_pos rfl, e] at heq
      by_cases h10 : c = 10
      · have e0 : stepN 0 c = 3 := by subst h10; rfl
        refine ⟨by rw [e0]; simp, by rw [e0]; simp, by rw [e0]; simp, fun _ => ?_⟩
        rw [heq, one 10 (by omega) h10]
        show Option.map _ (text (10 :: q)) = _
        rw [text_lf]
        rfl
      by_cases h92 : c = 92
      · have e0 : stepN 0 c = 1 := by subst h92; rfl
        refine ⟨by rw [e0]; simp, fun _ => ⟨by omega, hu3, by omega, ?_⟩, by rw [e0]; simp, by rw [e0]; simp⟩
        rw [heq, if_neg (by decide), hq, one 92 (by omega) h92]
        show Option.map _ (text (92 :: q)) = _
        congr 1
        funext x
        simp only [Prod.mk.injEq, true_and]
        omega
      by_cases h34 : c = 34
      · have e0 : stepN 0 c = 2 := by subst h34; rfl
        refine ⟨by rw [e0]; simp, by rw [e0]; simp, fun _ => ?_, by rw [e0]; simp⟩
        rw [heq, one 34 (by omega) h34]
        show Option.map _ (text (34 :: q)) = _
        rw [text_end]
        simp
      · have e0 : stepN 0 c = 0 := by simp [stepN, h10, h92, h34]
        refine ⟨fun _ => ⟨by omega, hu3, hlen1, ?_⟩, by rw [e0]; simp, by rw [e0]; simp, by rw [e0]; simp⟩
        rw [heq, text_other b q (byte_ne hbc h10) (byte_ne hbc h34) (byte_ne hbc h92), if_pos rfl, hq, Option.map_map]
        congr 1
        funext x
        simp only [Function.comp, enc_snoc, hen, List.append_assoc, List.singleton_append, Prod.mk.injEq, true_and]
        omega
  · by_cases h1 : st = 1
    · subst h1
      rw [if_neg (by decide)] at heq
      have e0 : stepN 1 c = 3 := by
        unfold stepN
        rw [if_neg (by omega), if_pos (.inl rfl)]
      refine ⟨by rw [e0]; simp, by rw [e0]; simp, by rw [e0]; simp, fun _ => ?_⟩
      cases hq : l.drop pos with
      | nil => exact absurd hq hl
      | cons b q =>
        have hb128 : 128 ≤ b.toNat := hhi b (by
          rw [hq]
          obtain ⟨k, rfl⟩ : ∃ k, n = k + 1 := ⟨n - 1, by omega⟩
          simp)
        rw [heq, hq, text_esc, if_neg]
        · rfl
        · rintro (h | h)
          · rw [h] at hb128; exact absurd hb128 (by decide)
          · rw [h] at hb128; exact absurd hb128 (by decide)
    · obtain rfl : st = 0 := by omega
      rw [if_pos rfl] at heq
      have e0 : stepN 0 c = 0 := by
        unfold stepN
        rw [if_neg (by omega), if_neg (by omega), if_neg (by omega), if_neg (by omega)]
      refine ⟨fun _ => ⟨by omega, hu3, hlen1, ?_⟩, by rw [e0]; simp, by rw [e0]; simp, by rw [e0]; simp⟩
      have ht := text_high ((l.drop pos).drop n) _ hhi
      rw [List.take_append_drop, List.drop_drop, htl] at ht
      rw [heq, ht, if_pos rfl, Option.map_map]
      congr 1
      funext x
      simp only [Function.comp, enc_snoc, hen, List.append_assoc, Prod.mk.injEq, true_and]
      omega

end Go.Proofs.YtpchlnikcdhklaaDoor.LX
