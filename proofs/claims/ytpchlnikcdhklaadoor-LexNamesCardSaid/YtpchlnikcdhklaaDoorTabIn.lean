/-
  WHAT THE ROW LISTS OF THE PACKAGE-LEVEL VARIABLES IS WHAT THE WALKS ASK OF THEM.
-/
import Derived.Test.YtpchlnikcdhklaaDoorRows
import Derived.Test.YtpchlnikcdhklaaDoorTab
import Derived.Lib.LaidU8
import Derived.Lib.LaidTab
import Derived.Lib.ItoaNum
namespace Go.Proofs.YtpchlnikcdhklaaDoor
open Go.RowKit Go.Lib Go

theorem iface_of_trod {H : Type} {enc : TypeId × Value → H} {P : Program} {w : World} {base : Nat} {sp : Nat → Bool} {held : Bool} {fuel : Nat} {t : TypeId} {ms : Array (String × TypeId)} {cs : List Value} {nm : String} {d : DataW H} {p : List MemPlace}
    (ht : P.underlying t = some (.interface ms)) (h : DataW.trod enc P w base sp held fuel t cs = some (.iface nm d, p)) : ∃ u v, cs = [.iface u v] := by
  cases fuel with
  | zero => simp [DataW.trod] at h
  | succ n =>
    unfold DataW.trod at h
    rw [ht] at h
    split at h <;> simp_all

theorem strs_of_trod {H : Type} {enc : TypeId × Value → H} {P : Program} {w : World} {base : Nat} {sp : Nat → Bool} {held : Bool} {fuel : Nat} {t e : TypeId} {n : Nat} {cs : List Value} {xs : List (List UInt8)} {p : List MemPlace}
    (ht : P.underlying t = some (.array n e)) (he : P.underlying e = some .string) (hce : P.cellsOf e = 1) (hct : P.cellsOf t = n)
    (h : DataW.trod enc P w base sp held fuel t cs = some (.agg (xs.map fun x => .lit (.string x)), p)) : cs = xs.map fun x => Value.string ⟨x.toArray⟩ := by
  cases fuel with
  | zero => simp [DataW.trod] at h
  | succ fuel =>
    simp only [DataW.trod, ht, hce, hct, Nat.mul_one] at h
    split at h
    · rename_i hl
      obtain ⟨ys, hm, hx⟩ := Option.map_eq_some_iff.1 h
      have hxs : ys.map (·.1) = xs.map fun x => (DataW.lit (.string x) : DataW H) := by
        have := congrArg Prod.fst hx
        simpa using this
      have hyl : ys.length = n := by simpa using mapM_length hm
      have hzl : xs.length = n := by
        have := congrArg List.length hxs
        simp at this
        omega
      apply List.ext_getElem?
      intro i
      by_cases hi : i < n
      · obtain ⟨b, hb, hf⟩ := mapM_at hm i i (by simp [hi])
        obtain ⟨z, hc, rfl, _⟩ := DataW.trod_string he hf
        have h1 : cs[i]? = some (.string z) := by
          have := congrArg (·[0]?) hc
          simpa [List.getElem?_take, List.getElem?_drop] using this
        have h2 : (ys.map (·.1))[i]? = some (DataW.lit (.string z.data.toList) : DataW H) := by simp [hb]
        rw [hxs] at h2
        simp only [List.getElem?_map, Option.map_eq_some_iff, DataW.lit.injEq, Lit.string.injEq] at h2
        obtain ⟨z', hz', he'⟩ := h2
        rw [h1, List.getElem?_map, hz', he']
        rfl
      · rw [List.getElem?_eq_none (by omega), List.getElem?_eq_none (by simp; omega)]
    · cases h

theorem firstIs : Rows.laid_unicode_utf8_first = Lib.firstData := by kernel_rfl
theorem acceptIs : (Rows.laid_unicode_utf8_acceptRanges : DataW Unit) = Lib.acceptData := by kernel_rfl
theorem powIs : (Rows.laid_internal_strconv_uint64pow10 : DataW Unit) = Lib.tabData .u64 Lib.pow10Tab := by kernel_rfl

theorem tabs {w : World} (h : laidMet Tryd.prog Rows.lexIsRow.laid w) : Tabs w where
  utf := utf8Tabs_of_reads (ρ := Tryd.lays260_ren) { Tryd.lays260 with } ⟨by kernel_rfl, by kernel_rfl, by kernel_rfl, by kernel_rfl, by kernel_rfl, by kernel_rfl, by kernel_rfl⟩
    (firstIs ▸ Lib.laidMet.reads h (.tail _ (.tail _ (.tail _ (.tail _ (.tail _ (.tail _ (.tail _ (.head _)))))))))
    (acceptIs ▸ Lib.laidMet.reads h (.tail _ (.tail _ (.tail _ (.head _)))))
  pow := by
    obtain ⟨g', t', cs, fuel, p, hg', ht', hvar, hd⟩ := Lib.laidMet.reads h (n := "internal/strconv.uint64pow10") (d := Rows.laid_internal_strconv_uint64pow10) (.tail _ (.tail _ (.head _)))
    rw [powIs] at hd
    have hty : (Tryd.prog.globals[4]?).map (·.type) = some 95 := by kernel_rfl
    obtain rfl := Option.some.inj (gPow.symm.trans hg')
    obtain rfl := Option.some.inj (hty.symm.trans ht')
    unfold Lib.TabIs
    rw [hvar, ← Lib.cells_of_tab Tryd.underlying95 Tryd.underlying69 (by kernel_rfl) (by kernel_rfl) hd]
  signs := by
    obtain ⟨g', t', cs, fuel, p, hg', ht', hvar, hd⟩ := Lib.laidMet.reads h (n := "magpie/lex.signs") (d := Rows.laid_magpie_lex_signs) (.tail _ (.tail _ (.tail _ (.tail _ (.tail _ (.tail _ (.head _)))))))
    have hty : (Tryd.prog.globals[0]?).map (·.type) = some 66 := by kernel_rfl
    obtain rfl := Option.some.inj (gSigns.symm.trans hg')
    obtain rfl := Option.some.inj (hty.symm.trans ht')
    have := strs_of_trod (xs := [[33, 61], [61], [40], [41]]) Tryd.underlying66 Tryd.underlying9 (by kernel_rfl) (by kernel_rfl) hd
    rw [hvar]
    congr 1
    rw [← Array.toList_inj, this]
    rfl
  syn := by
    obtain ⟨g', t', cs, fuel, p, hg', ht', hvar, hd⟩ := Lib.laidMet.reads h (n := "strconv.ErrSyntax") (d := Rows.laid_strconv_ErrSyntax) (.tail _ (.tail _ (.tail _ (.tail _ (.tail _ (.head _))))))
    have hty : (Tryd.prog.globals[7]?).map (·.type) = some 89 := by kernel_rfl
    obtain rfl := Option.some.inj (gSyn.symm.trans hg')
    obtain rfl := Option.some.inj (hty.symm.trans ht')
    obtain ⟨u, v, e⟩ := iface_of_trod Tryd.underlying89 hd
    refine ⟨u, v, ?_⟩
    rw [hvar]
    congr 1
    rw [← Array.toList_inj, e]
  rng := by
    obtain ⟨g', t', cs, fuel, p, hg', ht', hvar, hd⟩ := Lib.laidMet.reads h (n := "strconv.ErrRange") (d := Rows.laid_strconv_ErrRange) (.tail _ (.tail _ (.tail _ (.tail _ (.head _)))))
    have hty : (Tryd.prog.globals[8]?).map (·.type) = some 89 := by kernel_rfl
    obtain rfl := Option.some.inj (gRng.symm.trans hg')
    obtain rfl := Option.some.inj (hty.symm.trans ht')
    obtain ⟨u, v, e⟩ := iface_of_trod Tryd.underlying89 hd
    refine ⟨u, v, ?_⟩
    rw [hvar]
    congr 1
    rw [← Array.toList_inj, e]

end Go.Proofs.YtpchlnikcdhklaaDoor
