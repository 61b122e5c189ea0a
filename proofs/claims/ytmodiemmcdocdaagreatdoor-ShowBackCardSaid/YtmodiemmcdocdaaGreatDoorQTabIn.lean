/-
  WHAT THE ROW LISTS OF THE PACKAGE-LEVEL VARIABLES IS WHAT THE WALKS ASK OF THEM.
-/
import Derived.Test.YtmodiemmcdocdaaGreatDoorRows
import Derived.Test.YtmodiemmcdocdaaGreatDoorQTab
import Derived.Lib.LaidU8
import Derived.Lib.LaidTab
import Derived.Lib.ItoaNum
import Derived.LaidHandle
import Derived.LaidSub
import Derived.Lay
namespace Go.Proofs.YtmodiemmcdocdaaGreatDoor
open Go.RowKit Go.Lib Go

theorem iface_of_trod {H : Type} {enc : TypeId × Value → H} {P : Program} {w : World} {base : Nat} {sp : Nat → Bool} {held : Bool} {fuel : Nat} {t : TypeId} {ms : Array (String × TypeId)} {cs : List Value} {nm : String} {d : DataW H} {p : List MemPlace}
    (ht : P.underlying t = some (.interface ms)) (h : DataW.trod enc P w base sp held fuel t cs = some (.iface nm d, p)) : ∃ u v, cs = [.iface u v] := by
  cases fuel with
  | zero => simp [DataW.trod] at h
  | succ n =>
    unfold DataW.trod at h
    rw [ht] at h
    split at h <;> simp_all

theorem strs_of_trod {H : Type} {enc : TypeId × Value → H} {P : Program} {w : World} {base : Nat} {sp : Nat → Bool} {held : Bool} {fuel : Nat} {t e : TypeId} {n : Nat} {cs : List Value} {xs : List (List UInt8)} {p : List MemPlace}
    (ht : P.underlying t = some (.array n e)) (he : P.underlying e = some .string) (hce : P.cellsOf e = 1) (hct : P.cellsOf t = n)
    (h : DataW.trod enc P w base sp held fuel t cs = some (.agg (xs.map fun x => .lit (.string x)), p)) : cs = xs.map fun x => Value.string ⟨x.toArray⟩ := by
  cases fuel with
  | zero => simp [DataW.trod] at h
  | succ fuel =>
    simp only [DataW.trod, ht, hce, hct, Nat.mul_one] at h
    split at h
    · rename_i hl
      obtain ⟨ys, hm, hx⟩ := Option.map_eq_some_iff.1 h
      have hxs : ys.map (·.1) = xs.map fun x => (DataW.lit (.string x) : DataW H) := by
        have := congrArg Prod.fst hx
        simpa using this
      have hyl : ys.length = n := by simpa using mapM_length hm
      have hzl : xs.length = n := by
        have := congrArg List.length hxs
        simp at this
        omega
      apply List.ext_getElem?
      intro i
      by_cases hi : i < n
      · obtain ⟨b, hb, hf⟩ := mapM_at hm i i (by simp [hi])
        obtain ⟨z, hc, rfl, _⟩ := DataW.trod_string he hf
        have h1 : cs[i]? = some (.string z) := by
          have := congrArg (·[0]?) hc
          simpa [List.getElem?_take, List.getElem?_drop] using this
        have h2 : (ys.map (·.1))[i]? = some (DataW.lit (.string z.data.toList) : DataW H) := by simp [hb]
        rw [hxs] at h2
        simp only [List.getElem?_map, Option.map_eq_some_iff, DataW.lit.injEq, Lit.string.injEq] at h2
        obtain ⟨z', hz', he'⟩ := h2
        rw [h1, List.getElem?_map, hz', he']
        rfl
      · rw [List.getElem?_eq_none (by omega), List.getElem?_eq_none (by simp; omega)]
    · cases h

theorem firstIs : Rows.laid_unicode_utf8_first = Lib.firstData := by kernel_rfl
theorem acceptIs : (Rows.laid_unicode_utf8_acceptRanges : DataW Unit) = Lib.acceptData := by kernel_rfl
theorem powIs : (Rows.laid_internal_strconv_uint64pow10 : DataW Unit) = Lib.tabData .u64 Lib.pow10Tab := by kernel_rfl

/-- The listed variables but for the handle. -/
def laid8 : List (String × DataW Unit) := [("math/bits.deBruijn32tab", Rows.laid_math_bits_deBruijn32tab), ("math/bits.deBruijn64tab", Rows.laid_math_bits_deBruijn64tab), ("internal/strconv.uint64pow10", Rows.laid_internal_strconv_uint64pow10), ("unicode/utf8.acceptRanges", Rows.laid_unicode_utf8_acceptRanges), ("strconv.ErrRange", Rows.laid_strconv_ErrRange), ("strconv.ErrSyntax", Rows.laid_strconv_ErrSyntax), ("magpie/lex.signs", Rows.laid_magpie_lex_signs), ("unicode/utf8.first", Rows.laid_unicode_utf8_first)]
def laid1 : List (String × DataW Unit) := [("errors.errorType", Rows.laid_errors_errorType)]
theorem laid8_is : (Rows.parseIsRow.laid.filter fun x => x.2.handleName?.isNone) = laid8 := by kernel_rfl
theorem laid1_is : (Rows.parseIsRow.laid.filter fun x => x.2.handleName?.isSome) = laid1 := by kernel_rfl
theorem ety_type : Tryz.prog.globalNamed "errors.errorType" = some 0 := by kernel_rfl
theorem ety_rt : (Tryz.prog.cutTypes.find? (·.1 == "internal/reflectlite.rtype")).map (·.2) = some 151 := by kernel_rfl
theorem ety_row : ((List.range 247).filter fun t => Tryz.prog.rowNamed t [101, 114, 114, 111, 114]) = [60] := by kernel_rfl
theorem ety_size : Tryz.prog.types.size = 247 := by kernel_rfl

theorem ety_met {W : World} (h : handlesMet Tryz.prog laid1 W) : W.var? Tryz.prog "errors.errorType" = some #[.iface 151 (.agg #[.pointer (some ⟨10, 60, none⟩)])] := by
  obtain ⟨name, u, ty, e1, e2, e3, e4, e5⟩ := h _ (List.mem_singleton.2 rfl)
  have en : name = [101, 114, 114, 111, 114] := (Option.some.inj e1).symm
  subst en
  obtain rfl := Option.some.inj (ety_rt.symm.trans e2)
  have hm : ty ∈ (List.range 247).filter fun t => Tryz.prog.rowNamed t [101, 114, 114, 111, 114] := List.mem_filter.2 ⟨List.mem_range.2 (by rw [← ety_size]; exact e3), e4⟩
  rw [ety_row] at hm
  obtain rfl := List.mem_singleton.1 hm
  have hh : typeHandle Tryz.prog 60 = .pointer (some ⟨10, 60, none⟩) := by kernel_rfl
  rw [hh] at e5
  exact e5

theorem tabs0 {w : World} (h : laidMet Tryz.prog laid8 w) (he : handlesMet Tryz.prog laid1 w) : Tabs w where
  ety := ety_met he
  utf := utf8Tabs_of_reads (ρ := Tryz.lays260_ren) { Tryz.lays260 with } ⟨by kernel_rfl, by kernel_rfl, by kernel_rfl, by kernel_rfl, by kernel_rfl, by kernel_rfl, by kernel_rfl⟩
    (firstIs ▸ Lib.laidMet.reads h (.tail _ (.tail _ (.tail _ (.tail _ (.tail _ (.tail _ (.tail _ (.head _)))))))))
    (acceptIs ▸ Lib.laidMet.reads h (.tail _ (.tail _ (.tail _ (.head _)))))
  pow := by
    obtain ⟨g', t', cs, fuel, p, hg', ht', hvar, hd⟩ := Lib.laidMet.reads h (n := "internal/strconv.uint64pow10") (d := Rows.laid_internal_strconv_uint64pow10) (.tail _ (.tail _ (.head _)))
    rw [powIs] at hd
    have hty : (Tryz.prog.globals[4]?).map (·.type) = some 188 := by kernel_rfl
    obtain rfl := Option.some.inj (gPow.symm.trans hg')
    obtain rfl := Option.some.inj (hty.symm.trans ht')
    unfold Lib.TabIs
    rw [hvar, ← Lib.cells_of_tab Tryz.underlying188 Tryz.underlying119 (by kernel_rfl) (by kernel_rfl) hd]
  signs := by
    obtain ⟨g', t', cs, fuel, p, hg', ht', hvar, hd⟩ := Lib.laidMet.reads h (n := "magpie/lex.signs") (d := Rows.laid_magpie_lex_signs) (.tail _ (.tail _ (.tail _ (.tail _ (.tail _ (.tail _ (.head _)))))))
    have hty : (Tryz.prog.globals[1]?).map (·.type) = some 135 := by kernel_rfl
    obtain rfl := Option.some.inj (gSigns.symm.trans hg')
    obtain rfl := Option.some.inj (hty.symm.trans ht')
    have := strs_of_trod (xs := [[33, 61], [61], [40], [41]]) Tryz.underlying135 Tryz.underlying9 (by kernel_rfl) (by kernel_rfl) hd
    rw [hvar]
    congr 1
    rw [← Array.toList_inj, this]
    rfl
  syn := by
    obtain ⟨g', t', cs, fuel, p, hg', ht', hvar, hd⟩ := Lib.laidMet.reads h (n := "strconv.ErrSyntax") (d := Rows.laid_strconv_ErrSyntax) (.tail _ (.tail _ (.tail _ (.tail _ (.tail _ (.head _))))))
    have hty : (Tryz.prog.globals[8]?).map (·.type) = some 60 := by kernel_rfl
    obtain rfl := Option.some.inj (gSyn.symm.trans hg')
    obtain rfl := Option.some.inj (hty.symm.trans ht')
    obtain ⟨u, v, e⟩ := iface_of_trod Tryz.underlying60 hd
    refine ⟨u, v, ?_⟩
    rw [hvar]
    congr 1
    rw [← Array.toList_inj, e]
  rng := by
    obtain ⟨g', t', cs, fuel, p, hg', ht', hvar, hd⟩ := Lib.laidMet.reads h (n := "strconv.ErrRange") (d := Rows.laid_strconv_ErrRange) (.tail _ (.tail _ (.tail _ (.tail _ (.head _)))))
    have hty : (Tryz.prog.globals[9]?).map (·.type) = some 60 := by kernel_rfl
    obtain rfl := Option.some.inj (gRng.symm.trans hg')
    obtain rfl := Option.some.inj (hty.symm.trans ht')
    obtain ⟨u, v, e⟩ := iface_of_trod Tryz.underlying60 hd
    refine ⟨u, v, ?_⟩
    rw [hvar]
    congr 1
    rw [← Array.toList_inj, e]

theorem tabs {w : World} (h : laidMetH Tryz.prog Rows.parseIsRow.laid w) : Tabs w := by
  obtain ⟨h1, h2⟩ := laidMetH_iff.1 h
  rw [laid8_is] at h1
  rw [laid1_is] at h2
  exact tabs0 h1 h2

/-- A world in which all that is listed is laid. -/
noncomputable def laidWorld (os : Os) : World :=
  let w0 := World.holding Tryz.prog os ⟨#[], #[], []⟩
  ({ w0 with heap := w0.heap.modify 0 fun
      | .cells _ t frozen => .cells #[.iface 151 (.agg #[.pointer (some ⟨10, 60, none⟩)])] t frozen
      | o => o } : World).layVars Tryz.prog laid8
theorem laidWorld_os (os : Os) : (laidWorld os).os = os := by
  unfold laidWorld
  rw [World.layVars_os]
  exact World.laidAll_os Tryz.prog os [] ▸ rfl
theorem laidWorld_met (os : Os) (args : Array Value) : laidMetH Tryz.prog Rows.parseIsRow.laid ((laidWorld os).forCall (fun _ _ => 0) ⟨#[], args, []⟩).memory := by
  refine laidMetH_of_parts ?_ (by kernel_rfl)
  rw [laid8_is]
  have e1 : (laid8.filter fun x => (laid8.map (·.1)).contains x.1) = laid8 := List.filter_eq_self.2 fun x hx => List.contains_iff_mem.2 (List.mem_map.2 ⟨x, hx, rfl⟩)
  have e2 : (laid8.filter fun x => !(laid8.map (·.1)).contains x.1) = [] := List.filter_eq_nil_iff.2 fun x hx => by rw [List.contains_iff_mem.2 (List.mem_map.2 ⟨x, hx, rfl⟩)]; simp
  have h : laidMet Tryz.prog laid8 (laidWorld os) := laidMet_layVars (w0 := ({ (World.holding Tryz.prog os ⟨#[], #[], []⟩) with heap := (World.holding Tryz.prog os ⟨#[], #[], []⟩).heap.modify 0 fun
      | .cells _ t frozen => .cells #[.iface 151 (.agg #[.pointer (some ⟨10, 60, none⟩)])] t frozen
      | o => o } : World)) (laid8.map (·.1)) [] (by rw [e1]; rfl) (by rw [e1]; kernel_rfl) (by rw [e1]; kernel_rfl) (by rw [e2]; exact LaidIn.none)
  exact h.of_heap (by simp [World.memory, World.forCall, Input.heap])

end Go.Proofs.YtmodiemmcdocdaaGreatDoor
