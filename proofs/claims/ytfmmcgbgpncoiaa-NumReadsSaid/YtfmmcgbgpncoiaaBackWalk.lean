/-
  magpielaw01.NumBack: the walk.
-/
import Derived.Test.YtfmmcgbgpncoiaaBackMath
namespace Go.Proofs.Ytfmmcgbgpncoiaa
open Go.RowKit Go

/-- The items of a slice that came in: their cells; each number fits its kind. -/
structure ItemsAt (w : World) (b off : Nat) (its : List It) : Prop where
  lt : b < w.heap.size
  kind : ∀ i, i < its.length → w.cell? ⟨b, off + i * 3, none⟩ = some (.int .i64 (its.getD i ⟨0, 0, ⟨#[]⟩⟩).kind)
  num : ∀ i, i < its.length → w.cell? ⟨b, off + i * 3 + 1, none⟩ = some (.int .u64 (its.getD i ⟨0, 0, ⟨#[]⟩⟩).n)
  txt : ∀ i, i < its.length → w.cell? ⟨b, off + i * 3 + 2, none⟩ = some (.string (its.getD i ⟨0, 0, ⟨#[]⟩⟩).s)
  wf : ∀ x ∈ its, -9223372036854775808 ≤ x.kind ∧ x.kind ≤ 9223372036854775807 ∧ x.n < 18446744073709551616 ∧ x.s.size ≤ maxLen

theorem take_next {its : List It} {k : Nat} {x d : It} (hk : k < its.length) (hx : its.getD k d = x) : its.take (k + 1) = its.take k ++ [x] := by
  rw [List.take_succ_eq_append_getElem hk]
  simp only [List.getD, List.getElem?_eq_getElem hk, Option.getD_some] at hx
  rw [hx]

theorem drop_next {its : List It} {k : Nat} {x d : It} (hk : k < its.length) (hx : its.getD k d = x) : its.drop k = x :: its.drop (k + 1) := by
  rw [List.drop_eq_getElem_cons hk]
  simp only [List.getD, List.getElem?_eq_getElem hk, Option.getD_some] at hx
  rw [hx]

theorem getD_mem {its : List It} {k : Nat} {x d : It} (hk : k < its.length) (hx : its.getD k d = x) : x ∈ its := by
  simp only [List.getD, List.getElem?_eq_getElem hk, Option.getD_some] at hx
  rw [← hx]
  exact List.getElem_mem _

theorem Bs.cut {B : Nat} {w : World} {a : Option Addr} {len cap : Nat} {l : List UInt8} (h : Bs B w (.slice a len cap) l) (k : Nat) (hk : k < l.length) : Bs B w (.slice a k cap) (l.take k) ∧ l.length ≤ cap := by
  have h' := h
  rcases h with ⟨_, rfl⟩ | ⟨g, cap', hv, _, _, hl, _⟩
  · simp at hk
  · simp only [Value.slice.injEq] at hv
    obtain ⟨rfl, rfl, rfl⟩ := hv
    exact ⟨h'.take k (by omega), hl⟩

set_option maxHeartbeats 8000000 in
theorem back_walk (b off cap : Nat) (its : List It) (cut : Int) (hc0 : -9223372036854775808 ≤ cut) (hc1 : cut ≤ 9223372036854775807) (w : World) (hI : ItemsAt w b off its) (h60 : its.length ≤ 60) :
    Calls Try.prog 5 #[.slice (some ⟨b, off, none⟩) its.length cap, .int .i64 cut] w fun e w' => e = .returned (.bool true) ∧ Below w.heap.size w w' := by
  have HI := Lib.hid hI
  have hblt := hI.lt
  clear hI
  go_enter Try.func5, Try.ntmps5
  go_wp2_with fail
  refine (alive_any w).mono ?_
  rintro e w1 ⟨rfl, hb1⟩
  go_wp2_with fail
  go_loopw [5, 21] (fun vb vi wr => ∃ k : Nat, vi = .int .i64 k ∧ k ≤ its.length ∧ (∀ x ∈ its.take k, x.Fits) ∧ Bs w.heap.size wr vb (encAll (its.take k)) ∧ Below w.heap.size w wr) (fun _ vi _ => its.length - (intOf vi).toNat)
  case atStart => exact ⟨0, rfl, Nat.zero_le _, (fun x hx => by simp at hx), Bs.nil _ _, hb1⟩
  case round =>
    obtain ⟨k, rfl, hk, hfit, hbs, hbw⟩ := hrel
    by_cases hlt : k < its.length
    · have g0 := (hbw.cell (p := ⟨b, off + k * 3, none⟩) hblt).trans (HI.out.kind k hlt)
      have g1 := (hbw.cell (p := ⟨b, off + k * 3 + 1, none⟩) hblt).trans (HI.out.num k hlt)
      have g2 := (hbw.cell (p := ⟨b, off + k * 3 + 2, none⟩) hblt).trans (HI.out.txt k hlt)
      have HF := Lib.hid hfit
      have HB := Lib.hid hbs
      generalize hx : its.getD k ⟨0, 0, ⟨#[]⟩⟩ = x at g0 g1 g2
      obtain ⟨kd, n, s⟩ := x
      simp only [] at g0 g1 g2
      have HX := Lib.hid hx
      clear hfit hbs hx
      by_cases hs : 100 < s.size
      · go_wp2_with fail
        go_ret
        exact ⟨rfl, hbw.alloc hbw.size _⟩
      · have hw := HI.out.wf _ (getD_mem hlt HX.out)
        have hX : It.Fits ⟨kd, n, s⟩ := ⟨hw.1, hw.2.1, hw.2.2.1, Nat.not_lt.1 hs⟩
        have hel := encAll_len (its.take k) HF.out
        have hP := put_any w.heap.size ⟨kd, n, s⟩ hX _ _ _ (HB.out.alloc (.cells #[.int .i64 kd, .int .u64 n, .string s] 49)) (by have := hbw.size; simp; omega) (by rw [List.length_take] at hel; omega)
        have HP := Lib.hid hP
        have HXF := Lib.hid hX
        clear hP hX hel hw
        go_wp2_with fail
        refine HP.out.mono ?_
        rintro e w2 ⟨v2, rfl, hs2, hb2⟩
        have HS2 := Lib.hid hs2
        clear hs2
        go_wp2_with fail
        go_roundw
        case rel =>
          refine ⟨k + 1, by go_num, by omega, ?_, ?_, (hbw.alloc hbw.size _).trans hb2⟩
          · rw [take_next hlt HX.out]
            intro y hy
            rcases List.mem_append.1 hy with hy | hy
            · exact HF.out y hy
            · rw [List.mem_singleton.1 hy]; exact HXF.out
          · rw [take_next hlt HX.out, encAll_append]
            have := HS2.out
            simpa [encAll] using this
        case measure => simp [intOf]; omega
    · obtain rfl : k = its.length := by omega
      rw [List.take_length] at hfit hbs
      obtain ⟨wA, rfl⟩ : ∃ wA : World, wA = wr := ⟨_, rfl⟩
      have hel := encAll_len its hfit
      obtain ⟨p, hp⟩ : ∃ p : ByteArray, p.data.toList = encAll its := ⟨⟨(encAll its).toArray⟩, rfl⟩
      have hps : p.size ≤ 7000 := by rw [Lib.size_eq, hp]; omega
      have hc := bs_string_of hbs p hp
      obtain ⟨av, cv, rfl⟩ := hbs.shape
      have HF := Lib.hid hfit
      have HB := Lib.hid hbs
      have HP := Lib.hid hp
      clear hfit hbs hp
      go_wp2_with fail
      refine (from_any p (by omega) wA).mono ?_
      rintro e wB ⟨rfl, hzB, hrB, hbB⟩
      rw [HP.out] at hrB
      have HZB := Lib.hid hzB
      have hszB : wA.heap.size < wB.heap.size := by omega
      clear hzB hc
      go_wp2_with fail
      go_loopw [38] (fun vi wr => ∃ k : Nat, vi = .int .i64 k ∧ k ≤ its.length ∧ Rd wr wA.heap.size (encAll (its.drop k)) false ∧ Below wA.heap.size wA wr) (fun vi _ => its.length - (intOf vi).toNat)
      case atStart => exact ⟨0, rfl, Nat.zero_le _, by rw [List.drop_zero]; exact hrB, hbB⟩
      case round =>
        obtain ⟨k, rfl, hk, hrd, hbA⟩ := hrel
        have hbw2 : Below w.heap.size w wr := hbw.trans (hbA.mono hbw.size)
        by_cases hlt2 : k < its.length
        · have g0 := (hbw2.cell (p := ⟨b, off + k * 3, none⟩) hblt).trans (HI.out.kind k hlt2)
          have g1 := (hbw2.cell (p := ⟨b, off + k * 3 + 1, none⟩) hblt).trans (HI.out.num k hlt2)
          have g2 := (hbw2.cell (p := ⟨b, off + k * 3 + 2, none⟩) hblt).trans (HI.out.txt k hlt2)
          generalize hx : its.getD k ⟨0, 0, ⟨#[]⟩⟩ = x at g0 g1 g2
          have hX := HF.out x (getD_mem hlt2 hx)
          have hdn := drop_next hlt2 hx
          obtain ⟨kd, n, s⟩ := x
          simp only [] at g0 g1 g2
          rw [hdn] at hrd
          have hK := back_any wA.heap.size ⟨kd, n, s⟩ hX _ false _ (hrd.alloc (.cells #[.int .i64 kd, .int .u64 n, .string s] 49))
          have HK := Lib.hid hK
          have HXF := Lib.hid hX
          have hrl := hrd.lt
          clear hK hX hx hdn hrd
          go_wp2_with fail
          refine HK.out.mono ?_
          rintro e w2 ⟨ok, l', bad', rfl, hRB, hrd2, hch⟩
          obtain ⟨rfl, rfl, rfl⟩ := rb_put HXF.out rfl hRB
          clear hRB
          go_wp2_with fail
          refine (bad_any wA.heap.size _ false w2 hrd2).mono ?_
          rintro e w' ⟨rfl, rfl⟩
          go_wp2_with fail
          go_roundw
          case rel =>
            exact ⟨k + 1, by go_num, by omega, hrd2, hbA.trans (((Below.refl _ _).alloc (by omega) _).trans (hch.below (Nat.le_refl _) (by simp; omega)))⟩
          case measure => simp [intOf]; omega
        · obtain rfl : k = its.length := by omega
          rw [List.drop_length] at hrd
          go_wp2_with fail
          refine (end_any wA.heap.size _ false wr hrd).mono ?_
          rintro e w' ⟨rfl, rfl⟩
          have hbs2 := HB.out.below (Nat.le_refl _) hbA
          have HB2 := Lib.hid hbs2
          clear hbs2
          by_cases hcl : cut < 0
          · go_wp2_with fail
            go_ret
            exact ⟨rfl, hbw2⟩
          obtain ⟨ct, rfl⟩ := Int.eq_ofNat_of_zero_le (by omega : 0 ≤ cut)
          by_cases hcg : (encAll its).length ≤ ct
          · go_wp2_with fail
            go_ret
            exact ⟨rfl, hbw2⟩
          obtain ⟨hbt, hlc⟩ := HB2.out.cut ct (by omega)
          have htl : ((encAll its).take ct).length ≤ 7000 := by rw [List.length_take]; omega
          obtain ⟨p2, hp2⟩ : ∃ p2 : ByteArray, p2.data.toList = (encAll its).take ct := ⟨⟨((encAll its).take ct).toArray⟩, rfl⟩
          have hps2 : p2.size ≤ 7000 := by rw [Lib.size_eq, hp2]; exact htl
          have hc2 := bs_string_of hbt p2 hp2
          have hcut : Cut its ((encAll its).take ct) false := .inr ⟨(encAll its).drop ct, by
            intro h
            have := congrArg List.length h
            rw [List.length_drop, List.length_nil] at this
            omega, List.take_append_drop _ _⟩
          have HCUT := Lib.hid hcut
          have HP2 := Lib.hid hp2
          clear hbt htl hcut hp2 hrd
          obtain ⟨wC, rfl⟩ : ∃ wC : World, wC = wr := ⟨_, rfl⟩
          go_wp2_with fail
          refine (from_any p2 (by omega) wC).mono ?_
          rintro e wD ⟨rfl, hzD, hrD, hbD⟩
          rw [HP2.out] at hrD
          have hszD : wC.heap.size < wD.heap.size := by omega
          clear hzD hc2
          go_wp2_with fail
          go_loopw [69] (fun vi wr => ∃ (k : Nat) (l : List UInt8) (bad : Bool), vi = .int .i64 k ∧ k ≤ its.length ∧ Rd wr wC.heap.size l bad ∧ Cut (its.drop k) l bad ∧ Below wC.heap.size wC wr) (fun vi _ => its.length - (intOf vi).toNat)
          case atStart => exact ⟨0, _, _, rfl, Nat.zero_le _, hrD, by rw [List.drop_zero]; exact HCUT.out, hbD⟩
          case round =>
            obtain ⟨k, l, bad, rfl, hk, hrd, hct, hbC⟩ := hrel
            have hbw3 : Below w.heap.size w wr := hbw2.trans (hbC.mono hbw2.size)
            by_cases hlt3 : k < its.length
            · have g0 := (hbw3.cell (p := ⟨b, off + k * 3, none⟩) hblt).trans (HI.out.kind k hlt3)
              have g1 := (hbw3.cell (p := ⟨b, off + k * 3 + 1, none⟩) hblt).trans (HI.out.num k hlt3)
              have g2 := (hbw3.cell (p := ⟨b, off + k * 3 + 2, none⟩) hblt).trans (HI.out.txt k hlt3)
              generalize hx : its.getD k ⟨0, 0, ⟨#[]⟩⟩ = x at g0 g1 g2
              have hX := HF.out x (getD_mem hlt3 hx)
              have hdn := drop_next hlt3 hx
              obtain ⟨kd, n, s⟩ := x
              simp only [] at g0 g1 g2
              rw [hdn] at hct
              have hK := back_any wC.heap.size ⟨kd, n, s⟩ hX l bad _ (hrd.alloc (.cells #[.int .i64 kd, .int .u64 n, .string s] 49))
              have HK := Lib.hid hK
              have HXF := Lib.hid hX
              have HCT := Lib.hid hct
              have hrl := hrd.lt
              clear hK hX hx hdn hct hrd
              go_wp2_with fail
              refine HK.out.mono ?_
              rintro e w2 ⟨ok, l', bad', rfl, hRB, hrd2, hch⟩
              have hct2 := HCT.out.next HXF.out hRB
              have HCT2 := Lib.hid hct2
              clear hRB hct2
              go_wp2_with fail
              go_roundw
              case rel =>
                exact ⟨k + 1, l', bad', by go_num, by omega, hrd2, HCT2.out, hbC.trans (((Below.refl _ _).alloc (by omega) _).trans (hch.below (Nat.le_refl _) (by simp; omega)))⟩
              case measure => simp [intOf]; omega
            · obtain rfl : k = its.length := by omega
              rw [List.drop_length] at hct
              have hbt := hct.last
              subst hbt
              clear hct
              go_wp2_with fail
              refine (bad_any wC.heap.size _ true wr hrd).mono ?_
              rintro e w' ⟨rfl, rfl⟩
              go_wp2_with fail
              go_ret
              exact ⟨rfl, hbw3⟩

set_option maxHeartbeats 4000000 in
theorem back_walk0 (a : Option Addr) (cap : Nat) (cut : Int) (w : World) :
    Calls Try.prog 5 #[.slice a 0 cap, .int .i64 cut] w fun e w' => e = .returned (.bool true) ∧ Below w.heap.size w w' := by
  go_enter Try.func5, Try.ntmps5
  go_wp2_with fail
  refine (alive_any w).mono ?_
  rintro e w1 ⟨rfl, hb1⟩
  go_wp2_with fail
  go_loopw [5, 21] (fun vb vi wr => vb = .slice none 0 0 ∧ vi = .int .i64 0 ∧ wr = w1) (fun _ _ _ => 0)
  case atStart => exact ⟨rfl, rfl, rfl⟩
  case round =>
    obtain ⟨rfl, rfl, rfl⟩ := hrel
    have hc := bs_string_of (Bs.nil w.heap.size wr) ⟨#[]⟩ rfl
    go_wp2_with fail
    refine (from_any ⟨#[]⟩ (by decide) wr).mono ?_
    rintro e wB ⟨rfl, hzB, hrB, hbB⟩
    have HRB := Lib.hid hrB
    have HZB := Lib.hid hzB
    have HBB := Lib.hid (hb1.trans (hbB.mono hb1.size))
    clear hzB hrB hbB hc
    obtain ⟨wA, rfl⟩ : ∃ wA : World, wA = wr := ⟨_, rfl⟩
    go_wp2_with fail
    go_loopw [38] (fun vi wr => vi = .int .i64 0 ∧ wr = wB) (fun _ _ => 0)
    case atStart => exact ⟨rfl, rfl⟩
    case round =>
      obtain ⟨rfl, rfl⟩ := hrel
      go_wp2_with fail
      refine (end_any wA.heap.size _ false wr HRB.out).mono ?_
      rintro e w' ⟨rfl, rfl⟩
      by_cases hcl : cut < 0
      · go_wp2_with fail
        go_ret
        exact ⟨rfl, HBB.out⟩
      · go_wp2_with fail
        go_ret
        exact ⟨rfl, HBB.out⟩

set_option maxHeartbeats 1000000 in
theorem back_walk_long (a : Option Addr) (len cap : Nat) (hlen : 60 < len) (cut : Int) (w : World) :
    Calls Try.prog 5 #[.slice a len cap, .int .i64 cut] w fun e w' => e = .returned (.bool true) ∧ Below w.heap.size w w' := by
  go_enter Try.func5, Try.ntmps5
  go_wp2_with fail
  refine (alive_any w).mono ?_
  rintro e w1 ⟨rfl, hb1⟩
  go_wp2_with fail
  go_ret
  exact ⟨rfl, hb1⟩

end Go.Proofs.Ytfmmcgbgpncoiaa
