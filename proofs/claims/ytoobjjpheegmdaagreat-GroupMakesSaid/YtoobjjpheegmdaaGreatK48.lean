/-
  Mk16.
-/
import Derived.Test.YtoobjjpheegmdaaGreatK47
namespace Go.Proofs.YtoobjjpheegmdaaGreat.E4
open Go.RowKit Go
def lenM (k : Nat) : Nat := if k = 1 then 70 else if k = 2 then 145 else 174
theorem enter_len {k : Nat} (hk : k = 1 ∨ k = 2 ∨ k = 3) (args : Array Value) (W : World) : (callFunc (lenM k) args).run Tryz.prog W = .ok (.enter (lenM k) args) W := by
  rcases hk with rfl | rfl | rfl <;> kernel_rfl
theorem inv_len {k : Nat} (hk : k = 1 ∨ k = 2 ∨ k = 3) (v : Value) (fuel : Nat) (W : World) : (method (fuel + 1) (tyK k) v "Len").run Tryz.prog W = .ok (lenM k, v) W := by
  rcases hk with rfl | rfl | rfl <;> kernel_rfl
theorem ahead_ask {k : Nat} (hk : k = 1 ∨ k = 2 ∨ k = 3) (gb fuel : Nat) (W : World) : (nilAhead (fuel + 1) (tyK k) (.pointer (some ⟨gb, 0, none⟩)) "Ask").run Tryz.prog W = .ok (some false) W := by
  rcases hk with rfl | rfl | rfl <;> kernel_rfl
theorem lenF_any {k : Nat} {F : Nat → Prop} {w : World} {gb : Nat} {es : List Ent} (h : EngF k F w gb es) : Calls Tryz.prog (lenM k) #[.pointer (some ⟨gb, 0, none⟩)] w fun x w' => x = .returned (.int .i64 es.length) ∧ w' = w := by
  rcases h with ⟨rfl, κ, _, h⟩ | ⟨rfl, κ, _, h⟩ | ⟨rfl, tv, _, h⟩
  · exact len3_any w 0 gb es h.at
  · exact len4_any w 0 gb es h.at
  · exact len5_any w 1 gb es ⟨tv, h⟩
def aM16 (q : Int) : Ask := ⟨q, 0, 5, [], []⟩
def e5A : Ent := ⟨5, [], ⟨#[]⟩⟩
theorem makes_great (q : Int) : (aM16 q).great = false := by kernel_rfl
theorem makes_good {k : Nat} (hk : k = 1 ∨ k = 2 ∨ k = 3) : (aM16 (k : Int)).good isTx = true := by
  rcases hk with rfl | rfl | rfl <;> kernel_rfl
theorem makes_filter {k : Nat} (hk : k = 1 ∨ k = 2 ∨ k = 3) : [e5A].filter (asksK k (aM16 (k : Int))) = [e5A] := by
  rcases hk with rfl | rfl | rfl <;> kernel_rfl
theorem makes_cut0 : Md.cut (ordC false) (mkO false ⟨0, [], ⟨#[]⟩⟩) (5 : Int).toNat ([] : List Ent) = ([], true) := by kernel_rfl
theorem makes_cut1 : Md.cut (ordC false) (mkO false ⟨0, [], ⟨#[]⟩⟩) (5 : Int).toNat [e5A] = ([e5A], true) := by kernel_rfl
theorem makes_no {k : Nat} {q : Int} (h : ¬ q = (k : Int)) (log : List Ent) : ansK k log (aM16 q) (mkO false ⟨0, [], ⟨#[]⟩⟩) false 5 = ([], false, 12) := by
  unfold ansK
  rw [if_neg (show ¬ (aM16 q).kd = (k : Int) from h)]
theorem makes_0 {k : Nat} (hk : k = 1 ∨ k = 2 ∨ k = 3) : ansK k [] (aM16 (k : Int)) (mkO false ⟨0, [], ⟨#[]⟩⟩) false 5 = ([], true, 0) := by
  unfold ansK
  rw [if_pos (show (aM16 (k : Int)).kd = (k : Int) from rfl), if_pos (makes_good hk), List.filter_nil, srt_nil, makes_cut0]
theorem makes_1 {k : Nat} (hk : k = 1 ∨ k = 2 ∨ k = 3) : ansK k [e5A] (aM16 (k : Int)) (mkO false ⟨0, [], ⟨#[]⟩⟩) false 5 = ([e5A], true, 0) := by
  unfold ansK
  rw [if_pos (show (aM16 (k : Int)).kd = (k : Int) from rfl), if_pos (makes_good hk), makes_filter hk, srt_one, makes_cut1]
theorem makes_add : addE [] e5A = [e5A] := by kernel_rfl
theorem makes_ask {k : Nat} {F : Nat → Prop} {w W : World} {gb : Nat} {es : List Ent} (h : EngF k F w gb es) (hp : 0 < w.heap.size) (hW : Below w.heap.size w W) (q : Int) (hn : es.length ≤ 1000) (hl : ∀ x ∈ es, x.labs.length ≤ 1000000) {dv : Value} (hdv : dv = (aM16 q).dyn (.slice none 0 0) (.slice none 0 0)) :
    Calls Tryz.prog (askK k) #[.pointer (some ⟨gb, 0, none⟩), dv, .agg #[.bool false, .int .i64 0, .slice none 0 0, .string ⟨#[]⟩], .bool false, .int .i64 5] W (Ans (ansK k es (aM16 q) (mkO false ⟨0, [], ⟨#[]⟩⟩) false 5) W) := by
  rw [hdv]
  exact (askF_any (m := ⟨0, [], ⟨#[]⟩⟩) (h.below hp hW) ⟨none, 0, rfl, (by show 0 ≤ _; decide), .inl rfl⟩ ⟨none, 0, rfl, (by show 0 ≤ _; decide), .inl rfl⟩ (LabsAt.nil _ _) hn (makes_great q) hl fun _ h => absurd rfl h).mono fun x w' hx => hx.ans fun _ => Iff.rfl
set_option maxHeartbeats 8000000 in
set_option maxRecDepth 100000 in
theorem makes_walk16 (w : World) (hm : MaxI w) (kind q : Int) : Calls Tryz.prog 4 #[.int .i64 kind, .int .i64 q] w fun x w' => x = .returned (.bool true) ∧ Below w.heap.size w w' := by
  have hmx : Tryz.prog.follows .mixedOrders = true := by kernel_rfl
  have HAL := Lib.hid (aliveG_any w hm)
  have HM := Lib.hid hm
  clear hm
  by_cases hk : 1 ≤ kind ∧ kind ≤ 3
  · obtain ⟨k, rfl⟩ : ∃ k : Nat, kind = (k : Int) := ⟨kind.toNat, by omega⟩
    have hk3 : k = 1 ∨ k = 2 ∨ k = 3 := by omega
    have HK3 := Lib.hid hk3
    have hk1 := hk.1
    have hk2 := hk.2
    clear hk hk3
    go_enter Tryz.func4, Tryz.ntmps4
    go_upto_region 3 with (go_at_call 6; refine HAL.out.mono ?_; rintro x wa ⟨rfl, hba⟩)
    have HBA := Lib.hid hba
    have HMK := Lib.hid (make_yes HK3.out wa (HM.out.below1 hba))
    clear hba HAL
    go_upto_region 4 with (go_at_call 18; refine HMK.out.mono ?_; rintro x wb ⟨gb, rfl, heng, hlb⟩)
    have HENG := Lib.hid (heng.mono (G := fun b => wa.heap.size ≤ b ∧ b < wb.heap.size) fun b hlt hb => ⟨hb, hlt⟩)
    have hev : engV k (some gb) = .iface (tyK k) (.pointer (some ⟨gb, 0, none⟩)) := rfl
    obtain ⟨tk, htk⟩ : ∃ tk, tk = tyK k := ⟨_, rfl⟩
    rw [← htk] at hev
    rw [hev]
    have HPW : Hid (0 < wb.heap.size) := Lib.hid (Nat.lt_of_lt_of_le (HM.out.below1 HBA.out).pos hlb.size)
    have HBB := Lib.hid (below_mid HBA.out (lay_below hlb))
    have hiA : ∀ (W : World) (fuel : Nat), (method (fuel + 1) tk (.pointer (some ⟨gb, 0, none⟩)) "Ask").run Tryz.prog W = .ok (askK k, .pointer (some ⟨gb, 0, none⟩)) W := fun W fuel => by rw [htk]; exact inv_ask HK3.out _ fuel W
    have heA : ∀ (args : Array Value) (W : World), (callFunc (askK k) args).run Tryz.prog W = .ok (.enter (askK k) args) W := enter_ask HK3.out
    have hiD : ∀ (W : World) (fuel : Nat), (method (fuel + 1) tk (.pointer (some ⟨gb, 0, none⟩)) "Add").run Tryz.prog W = .ok (addK k, .pointer (some ⟨gb, 0, none⟩)) W := fun W fuel => by rw [htk]; exact inv_add HK3.out _ fuel W
    have heD : ∀ (args : Array Value) (W : World), (callFunc (addK k) args).run Tryz.prog W = .ok (.enter (addK k) args) W := enter_add HK3.out
    have hiL : ∀ (W : World) (fuel : Nat), (method (fuel + 1) tk (.pointer (some ⟨gb, 0, none⟩)) "Len").run Tryz.prog W = .ok (lenM k, .pointer (some ⟨gb, 0, none⟩)) W := fun W fuel => by rw [htk]; exact inv_len HK3.out _ fuel W
    have heL : ∀ (args : Array Value) (W : World), (callFunc (lenM k) args).run Tryz.prog W = .ok (.enter (lenM k) args) W := enter_len HK3.out
    have haA : ∀ (W : World) (fuel : Nat), (nilAhead (fuel + 1) tk (.pointer (some ⟨gb, 0, none⟩)) "Ask").run Tryz.prog W = .ok (some false) W := fun W fuel => by rw [htk]; exact ahead_ask HK3.out gb fuel W
    obtain ⟨wc, hwc⟩ : ∃ wc, wc = wb.alloc (.cells #[.int .i64 q, .int .i64 0, .int .i64 5, .slice none 0 0, .slice none 0 0] 36) := ⟨_, rfl⟩
    have hbc : Below wb.heap.size wb wc := by rw [hwc]; exact (Below.refl _ wb).alloc (Nat.le_refl _) _
    have hkc : Bl wc wb.heap.size 36 #[.int .i64 q, .int .i64 0, .int .i64 5, .slice none 0 0, .slice none 0 0] := by rw [hwc]; exact Bl.new wb 36 _
    have hdr : Below wc.heap.size wc wc.drew := lay_below ((Keep.refl (fun _ => False) wc).drew)
    obtain ⟨dv, hdv⟩ : ∃ dv, dv = (aM16 q).dyn (.slice none 0 0) (.slice none 0 0) := ⟨_, rfl⟩
    have HANY : Hid (∀ W, Calls Tryz.prog 15 #[.agg #[.int .i64 q, .int .i64 0, .int .i64 5, .slice none 0 0, .slice none 0 0]] W fun x w' => x = .returned dv ∧ Below W.heap.size W w') := Lib.hid fun W => by rw [hdv]; exact anyOf_any (aM16 q) (.slice none 0 0) (.slice none 0 0) W ⟨_, _, _, rfl⟩ ⟨_, _, _, rfl⟩
    have HKA : Hid (∀ W1, Below wc.drew.heap.size wc.drew W1 → Bl W1 wb.heap.size 36 #[.int .i64 q, .int .i64 0, .int .i64 5, .slice none 0 0, .slice none 0 0]) := Lib.hid fun W1 hW => hkc.below (below_mid hdr hW)
    obtain ⟨LL, hLL⟩ : ∃ LL, LL = (ansK k [] (aM16 q) (mkO false ⟨0, [], ⟨#[]⟩⟩) false 5).1 := ⟨_, rfl⟩
    obtain ⟨bb, hbb⟩ : ∃ bb, bb = (ansK k [] (aM16 q) (mkO false ⟨0, [], ⟨#[]⟩⟩) false 5).2.1 := ⟨_, rfl⟩
    obtain ⟨kk, hkk⟩ : ∃ kk, kk = (ansK k [] (aM16 q) (mkO false ⟨0, [], ⟨#[]⟩⟩) false 5).2.2 := ⟨_, rfl⟩
    have HASK : Hid (∀ W1, Below wc.drew.heap.size wc.drew W1 → Calls Tryz.prog (askK k) #[.pointer (some ⟨gb, 0, none⟩), dv, .agg #[.bool false, .int .i64 0, .slice none 0 0, .string ⟨#[]⟩], .bool false, .int .i64 5] W1 fun x w' => ∃ u, x = .returned (.tuple #[u, .bool bb, .int .i64 kk]) ∧ EntsAt (fun b => W1.heap.size ≤ b) (fun _ => True) w' u LL ∧ Below W1.heap.size W1 w') := Lib.hid fun W1 hW => by
      rw [hLL, hbb, hkk]
      exact makes_ask HENG.out HPW.out (below_mid hbc (below_mid hdr hW)) q (by simp) (fun x hx => by cases hx) hdv
    have HWC := Lib.hid hwc.symm
    have HBC := Lib.hid hbc
    have HKC := Lib.hid hkc
    have HDV := Lib.hid hdv
    have HLL := Lib.hid hLL
    have HBO := Lib.hid hbb
    have HKK := Lib.hid hkk
    clear heng hlb hev htk hwc hbc hkc hdr hdv hLL hbb hkk HMK
    go_upto_region 7 with fail
    rw [HWC.out]
    refine (wpIn_wide (n := 9)).1 ?_
    refine H3.wpIn_region_flow (fun _ => trivial) (by kernel_rfl) (fun _ _ W => Below wc.drew.heap.size wc.drew W) (fun _ _ W1 W2 => Below W1.heap.size W1 W2) (GV [some (.iface tk (.pointer (some ⟨gb, 0, none⟩))), some (.agg #[.int .i64 q, .int .i64 0, .int .i64 5, .slice none 0 0, .slice none 0 0]), some (dv), some (.agg #[.bool false, .int .i64 0, .slice none 0 0, .string ⟨#[]⟩]), some (.func (.method "Ask") #[.iface tk (.pointer (some ⟨gb, 0, none⟩))] #[]), some (.func (.method "Ask") #[.iface tk (.pointer (some ⟨gb, 0, none⟩))] #[]), some (.iface tk (.pointer (some ⟨gb, 0, none⟩))), none, none, none, some (.bool (bb)), some (.int .i64 (kk)), none, some (.bool (bb)), some (.int .i64 (kk))] [7, 8, 9, 12] (QP (wc.drew.heap.size) (LL) (bb) (kk) [7, 8] [9, 12])) (fun j => j == 12 || j == 13 || j == 14) (by kernel_rfl) (by kernel_rfl) ?hst (Below.refl _ _) ?step ?fin
    case hst =>
      intro i j ys v w1 w2 hij hanc hned hV hR
      by_cases hj7 : j = 7
      · subst hj7
        exact GV.keep (sp := QP (wc.drew.heap.size) (LL) (bb) (kk) [7, 8] [9, 12]) (fun _ _ _ _ h hb => QP.below h hb) hij hV hR
      by_cases hj8 : j = 8
      · subst hj8
        exact GV.keep (sp := QP (wc.drew.heap.size) (LL) (bb) (kk) [7, 8] [9, 12]) (fun _ _ _ _ h hb => QP.below h hb) hij hV hR
      by_cases hj9 : j = 9
      · subst hj9
        exact GV.keep (sp := QP (wc.drew.heap.size) (LL) (bb) (kk) [7, 8] [9, 12]) (fun _ _ _ _ h hb => QP.below h hb) hij hV hR
      by_cases hj12 : j = 12
      · subst hj12
        exact GV.keep (sp := QP (wc.drew.heap.size) (LL) (bb) (kk) [7, 8] [9, 12]) (fun _ _ _ _ h hb => QP.below h hb) hij hV hR
      exact gvq_keep (by simp; omega) hij hV
    case step =>
      refine ⟨?_, ?_, ?_, ?_, ?_, ?_, ?_, ?_, ?_, ?_, ?_, ?_, ?_, ?_, ?_, trivial⟩
      · intro listed ys X W1 hsz hsd hi2 hall hX hI hd K hK
        have e5 : X.tmps.getD 5 undef = .iface tk (.pointer (some ⟨gb, 0, none⟩)) := hX 5 (Nat.le_of_ble_eq_true rfl)
        have HI := Lib.hid hI
        refine H3.step_run (.inl rfl) ?_
        clear hX hd hI
        go_simp
        exact hK _ _ HI.out (Below.refl _ _) (GV.of (by decide) (fun u h => by cases h; rfl))
      · intro listed ys X W1 hsz hsd hi2 hall hX hI hd K hK
        have e6 : X.tmps.getD 6 undef = .pointer (some ⟨wb.heap.size, 0, none⟩) := hX 6 (Nat.le_of_ble_eq_true rfl)
        have hx := HKA.out W1 hI
        have x0 := hx.cell 0
        have x1 := hx.cell 1
        have x2 := hx.cell 2
        have x3 := hx.cell 3
        have x4 := hx.cell 4
        simp only [List.getElem?_toArray, List.getElem?_cons_succ, List.getElem?_cons_zero] at x0 x1 x2 x3 x4
        clear hx
        have HI := Lib.hid hI
        refine H3.step_run (.inl rfl) ?_
        clear hX hd hI
        go_simp
        exact hK _ _ HI.out (Below.refl _ _) (GV.of (by decide) (fun u h => by cases h; rfl))
      · intro listed ys X W1 hsz hsd hi2 hall hX hI hd K hK
        have e29 : X.tmps.getD 29 undef = .agg #[.int .i64 q, .int .i64 0, .int .i64 5, .slice none 0 0, .slice none 0 0] := (hX 29 (Nat.le_of_ble_eq_true rfl)).trans (GV.val (hd ⟨1, .data⟩ (by simp) rfl) (by decide) rfl)
        have HI := Lib.hid hI
        refine H3.step_run (.inl rfl) ?_
        clear hX hd hI
        go_simp
        refine ⟨trivial, (callsIn_wide.2 (HANY.out W1)).mono ?_⟩
        rintro x w7 ⟨rfl, hb⟩
        exact hK _ _ (HI.out.trans (hb.mono HI.out.size)) hb (GV.of (by decide) (fun u h => by cases h; rfl))
      · intro listed ys X W1 hsz hsd hi2 hall hX hI hd K hK
        have HI := Lib.hid hI
        refine H3.step_run (.inl rfl) ?_
        clear hX hd hI
        go_simp
        exact hK _ _ HI.out (Below.refl _ _) (GV.of (by decide) (fun u h => by cases h; rfl))
      · intro listed ys X W1 hsz hsd hi2 hall hX hI hd K hK
        have e28 : X.tmps.getD 28 undef = .iface tk (.pointer (some ⟨gb, 0, none⟩)) := (hX 28 (Nat.le_of_ble_eq_true rfl)).trans (GV.val (hd ⟨0, .data⟩ (by simp) rfl) (by decide) rfl)
        have HI := Lib.hid hI
        refine H3.step_run (.inl rfl) ?_
        clear hX hd hI
        go_simp
        exact hK _ _ HI.out (Below.refl _ _) (GV.of (by decide) (fun u h => by cases h; rfl))
      · intro listed ys X W1 hsz hsd hi2 hall hX hI hd K hK
        have e32 : X.tmps.getD 32 undef = .func (.method "Ask") #[.iface tk (.pointer (some ⟨gb, 0, none⟩))] #[] := (hX 32 (Nat.le_of_ble_eq_true rfl)).trans (GV.val (hd ⟨4, .data⟩ (by simp) rfl) (by decide) rfl)
        have HI := Lib.hid hI
        refine H3.step_run (.inl rfl) ?_
        clear hX hd hI
        go_simp
        exact hK _ _ HI.out (Below.refl _ _) (GV.of (by decide) (fun u h => by cases h; rfl))
      · intro listed ys X W1 hsz hsd hi2 hall hX hI hd K hK
        have e28 : X.tmps.getD 28 undef = .iface tk (.pointer (some ⟨gb, 0, none⟩)) := (hX 28 (Nat.le_of_ble_eq_true rfl)).trans (GV.val (hd ⟨0, .data⟩ (by simp) rfl) (by decide) rfl)
        have HI := Lib.hid hI
        refine H3.step_run (.inl rfl) ?_
        clear hX hd hI
        go_simp
        exact hK _ _ HI.out (Below.refl _ _) (GV.of (by decide) (fun u h => by cases h; rfl))
      · intro listed ys X W1 hsz hsd hi2 hall hX hI hd K hK
        have e34 : X.tmps.getD 34 undef = .iface tk (.pointer (some ⟨gb, 0, none⟩)) := (hX 34 (Nat.le_of_ble_eq_true rfl)).trans (GV.val (hd ⟨6, .data⟩ (by simp) rfl) (by decide) rfl)
        have e30 : X.tmps.getD 30 undef = dv := (hX 30 (Nat.le_of_ble_eq_true rfl)).trans (GV.val (hd ⟨2, .data⟩ (by simp) rfl) (by decide) rfl)
        have e31 : X.tmps.getD 31 undef = .agg #[.bool false, .int .i64 0, .slice none 0 0, .string ⟨#[]⟩] := (hX 31 (Nat.le_of_ble_eq_true rfl)).trans (GV.val (hd ⟨3, .data⟩ (by simp) rfl) (by decide) rfl)
        have HI := Lib.hid hI
        have HC := Lib.hid (HASK.out W1 hI)
        have hBW := HI.out.size
        refine H3.step_run (.inl rfl) ?_
        clear hX hd hI
        go_simp
        refine ⟨trivial, (callsIn_wide.2 HC.out).mono ?_⟩
        rintro x w7 ⟨u, rfl, hent, hb⟩
        exact hK _ _ (HI.out.trans (hb.mono HI.out.size)) hb (GV.ofsp (by decide) (show QP (wc.drew.heap.size) (LL) (bb) (kk) [7, 8] [9, 12] 7 _ w7 from ⟨fun _ => ⟨u, rfl, hent.mono (fun b hb2 _ => Nat.le_trans hBW hb2) (fun _ _ _ => trivial)⟩, fun h => absurd h (by decide)⟩))
      · intro listed ys X W1 hsz hsd hi2 hall hX hI hd K hK
        have e35 : X.tmps.getD 35 undef = ys 7 := hX 35 (Nat.le_of_ble_eq_true rfl)
        have hv7 := GV.spv (hd ⟨7, .data⟩ (by simp) rfl) (by decide)
        have HI := Lib.hid hI
        have HV := Lib.hid (hv7.1 (by decide))
        refine H3.step_run (.inl rfl) ?_
        clear hX hd hI hv7
        go_simp
        exact hK _ _ HI.out (Below.refl _ _) (GV.ofsp (by decide) (show QP (wc.drew.heap.size) (LL) (bb) (kk) [7, 8] [9, 12] 8 _ W1 from ⟨fun _ => HV.out, fun h => absurd h (by decide)⟩))
      · intro listed ys X W1 hsz hsd hi2 hall hX hI hd K hK
        have e27 : X.tmps.getD 27 undef = ys 8 := hX 27 (Nat.le_of_ble_eq_true rfl)
        have hv8 := GV.spv (hd ⟨8, .data⟩ (by simp) rfl) (by decide)
        have HI := Lib.hid hI
        obtain ⟨u, hv, hent⟩ : AT16 (wc.drew.heap.size) (LL) (bb) (kk) (ys 8) W1 := hv8.1 (by decide)
        rw [hv] at e27
        have HV := Lib.hid hent
        refine H3.step_run (.inl rfl) ?_
        clear hX hd hI hent hv hv8
        go_simp
        exact hK _ _ HI.out (Below.refl _ _) (GV.ofsp (by decide) (show QP (wc.drew.heap.size) (LL) (bb) (kk) [7, 8] [9, 12] 9 _ W1 from ⟨fun h => absurd h (by decide), fun _ => HV.out⟩))
      · intro listed ys X W1 hsz hsd hi2 hall hX hI hd K hK
        have e27 : X.tmps.getD 27 undef = ys 8 := hX 27 (Nat.le_of_ble_eq_true rfl)
        have hv8 := GV.spv (hd ⟨8, .data⟩ (by simp) rfl) (by decide)
        have HI := Lib.hid hI
        obtain ⟨u, hv, hent⟩ : AT16 (wc.drew.heap.size) (LL) (bb) (kk) (ys 8) W1 := hv8.1 (by decide)
        rw [hv] at e27
        have HV := Lib.hid hent
        refine H3.step_run (.inl rfl) ?_
        clear hX hd hI hent hv hv8
        go_simp
        exact hK _ _ HI.out (Below.refl _ _) (GV.of (by decide) (fun u h => by cases h; rfl))
      · intro listed ys X W1 hsz hsd hi2 hall hX hI hd K hK
        have e27 : X.tmps.getD 27 undef = ys 8 := hX 27 (Nat.le_of_ble_eq_true rfl)
        have hv8 := GV.spv (hd ⟨8, .data⟩ (by simp) rfl) (by decide)
        have HI := Lib.hid hI
        obtain ⟨u, hv, hent⟩ : AT16 (wc.drew.heap.size) (LL) (bb) (kk) (ys 8) W1 := hv8.1 (by decide)
        rw [hv] at e27
        have HV := Lib.hid hent
        refine H3.step_run (.inl rfl) ?_
        clear hX hd hI hent hv hv8
        go_simp
        exact hK _ _ HI.out (Below.refl _ _) (GV.of (by decide) (fun u h => by cases h; rfl))
      · intro listed ys X W1 hsz hsd hi2 hall hX hI hd K hK
        have e36 : X.tmps.getD 36 undef = ys 9 := hX 36 (Nat.le_of_ble_eq_true rfl)
        have hv9 := GV.spv (hd ⟨9, .data⟩ (by simp) rfl) (by decide)
        have HI := Lib.hid hI
        have HV := Lib.hid (hv9.2 (by decide))
        refine H3.step_run (.inl rfl) ?_
        clear hX hd hI hv9
        go_simp
        exact hK _ _ HI.out (Below.refl _ _) (GV.ofsp (by decide) (show QP (wc.drew.heap.size) (LL) (bb) (kk) [7, 8] [9, 12] 12 _ W1 from ⟨fun h => absurd h (by decide), fun _ => HV.out⟩))
      · intro listed ys X W1 hsz hsd hi2 hall hX hI hd K hK
        have e37 : X.tmps.getD 37 undef = .bool (bb) := (hX 37 (Nat.le_of_ble_eq_true rfl)).trans (GV.val (hd ⟨10, .data⟩ (by simp) rfl) (by decide) rfl)
        have HI := Lib.hid hI
        refine H3.step_run (.inl rfl) ?_
        clear hX hd hI
        go_simp
        exact hK _ _ HI.out (Below.refl _ _) (GV.of (by decide) (fun u h => by cases h; rfl))
      · intro listed ys X W1 hsz hsd hi2 hall hX hI hd K hK
        have e38 : X.tmps.getD 38 undef = .int .i64 (kk) := (hX 38 (Nat.le_of_ble_eq_true rfl)).trans (GV.val (hd ⟨11, .data⟩ (by simp) rfl) (by decide) rfl)
        have HI := Lib.hid hI
        refine H3.step_run (.inl rfl) ?_
        clear hX hd hI
        go_simp
        exact hK _ _ HI.out (Below.refl _ _) (GV.of (by decide) (fun u h => by cases h; rfl))
    case fin =>
      intro listed ys wd hall hI hV
      obtain ⟨-, hE⟩ := GV.spv (hV 12 (by decide) rfl) (by decide)
      have hent5 := hE (by decide)
      have h13 := GV.val (hV 13 (by decide) rfl) (by decide) rfl
      have h14 := GV.val (hV 14 (by decide) rfl) (by decide) rfl
      obtain ⟨lv5, hlv5⟩ : ∃ v, ys 12 = v := ⟨_, rfl⟩
      rw [hlv5] at hent5
      obtain ⟨xl, xc, rfl, _⟩ := id hent5
      have HBD : Hid (Below wb.heap.size wb wd) := Lib.hid (below_mid HBC.out (below_mid (lay_below ((Keep.refl (fun _ => False) wc).drew)) hI))
      have HKD : Hid (Bl wd wb.heap.size 36 #[.int .i64 q, .int .i64 0, .int .i64 5, .slice none 0 0, .slice none 0 0]) := Lib.hid (HKA.out wd hI)
      clear hent5 hE hI hV hall
      simp only [H3.putsFrom]
      simp only [hlv5, h13, h14, Nat.zero_add, Nat.reduceAdd, Act.put, List.setIfInBounds_toArray, List.set_cons_succ, List.set_cons_zero]
      clear hlv5 h13 h14 HKA HASK
      by_cases hq : q = (k : Int)
      · subst hq
        have hr := makes_0 HK3.out
        have hL : LL = [] := by rw [HLL.out, hr]
        have hB : bb = true := by rw [HBO.out, hr]
        have hK : kk = 0 := by rw [HKK.out, hr]
        subst hL hB hK
        clear hr HLL HBO HKK
        have HFEED := Lib.hid (addF_any (e := e5A) (lv := .slice none 0 0) (HENG.out.below HPW.out HBD.out) (LabsAt.nil (fun _ => False) _) (fun _ h => h.elim) (by exact ok_mod (by kernel_rfl)) (by decide) (fun x hx => by cases hx) (by simp))
        simp only [Ent.val, e5A] at HFEED
        go_upto_region 11 with (refine HFEED.out.mono ?_; rintro x we ⟨rfl, heng2, hold2, hb2⟩)
        have heng3 : EngF k (fun b => wa.heap.size ≤ b ∧ b < wb.heap.size ∨ wd.heap.size ≤ b) we gb [e5A] := by rw [← makes_add]; exact heng2
        have HENG2 := Lib.hid heng3
        have hbe : Below w.heap.size w we := (below_mid HBB.out HBD.out).trans ⟨hb2.os, hb2.tape, hb2.output, hb2.size, fun b hb => hold2 b (Nat.lt_of_lt_of_le hb (below_mid HBB.out HBD.out).size) fun h => by have := HBA.out.size; omega⟩
        have hke : Bl we wb.heap.size 36 #[.int .i64 (k : Int), .int .i64 0, .int .i64 5, .slice none 0 0, .slice none 0 0] := (hold2 _ HKD.out.lt fun h => by omega).trans HKD.out
        have HBE := Lib.hid hbe
        have HPE : Hid (0 < we.heap.size) := Lib.hid (Nat.lt_of_lt_of_le HPW.out (Nat.le_trans HBD.out.size hb2.size))
        have hdr : Below we.heap.size we we.drew := lay_below ((Keep.refl (fun _ => False) we).drew)
        have HKA2 : Hid (∀ W1, Below we.drew.heap.size we.drew W1 → Bl W1 wb.heap.size 36 #[.int .i64 (k : Int), .int .i64 0, .int .i64 5, .slice none 0 0, .slice none 0 0]) := Lib.hid fun W1 hW => hke.below (below_mid hdr hW)
        have hr2 := makes_1 HK3.out
        have HASK2 : Hid (∀ W1, Below we.drew.heap.size we.drew W1 → Calls Tryz.prog (askK k) #[.pointer (some ⟨gb, 0, none⟩), dv, .agg #[.bool false, .int .i64 0, .slice none 0 0, .string ⟨#[]⟩], .bool false, .int .i64 5] W1 fun x w' => ∃ u, x = .returned (.tuple #[u, .bool true, .int .i64 0]) ∧ EntsAt (fun b => W1.heap.size ≤ b) (fun _ => True) w' u [e5A] ∧ Below W1.heap.size W1 w') := Lib.hid fun W1 hW => by
          have h := makes_ask HENG2.out HPE.out (below_mid hdr hW) (k : Int) (by simp) (fun x hx => by rw [List.mem_singleton.1 hx]; decide) HDV.out
          rw [hr2] at h
          exact h
        clear heng2 heng3 hold2 hb2 hbe hke hdr hr2 HFEED
        refine (wpIn_wide (n := 9)).1 ?_
        refine H3.wpIn_region_flow (fun _ => trivial) (by kernel_rfl) (fun _ _ W => Below we.drew.heap.size we.drew W) (fun _ _ W1 W2 => Below W1.heap.size W1 W2) (GV [some (.iface tk (.pointer (some ⟨gb, 0, none⟩))), some (.agg #[.int .i64 (k : Int), .int .i64 0, .int .i64 5, .slice none 0 0, .slice none 0 0]), some (dv), some (.agg #[.bool false, .int .i64 0, .slice none 0 0, .string ⟨#[]⟩]), some (.func (.method "Ask") #[.iface tk (.pointer (some ⟨gb, 0, none⟩))] #[]), some (.func (.method "Ask") #[.iface tk (.pointer (some ⟨gb, 0, none⟩))] #[]), some (.iface tk (.pointer (some ⟨gb, 0, none⟩))), none, none, none, some (.bool (true)), some (.int .i64 (0)), none, some (.bool (true)), some (.int .i64 (0))] [7, 8, 9, 12] (QP (we.drew.heap.size) ([e5A]) (true) (0) [7, 8] [9, 12])) (fun j => j == 12 || j == 13 || j == 14) (by kernel_rfl) (by kernel_rfl) ?hst (Below.refl _ _) ?step ?fin
        case hst =>
          intro i j ys v w1 w2 hij hanc hned hV hR
          by_cases hj7 : j = 7
          · subst hj7
            exact GV.keep (sp := QP (we.drew.heap.size) ([e5A]) (true) (0) [7, 8] [9, 12]) (fun _ _ _ _ h hb => QP.below h hb) hij hV hR
          by_cases hj8 : j = 8
          · subst hj8
            exact GV.keep (sp := QP (we.drew.heap.size) ([e5A]) (true) (0) [7, 8] [9, 12]) (fun _ _ _ _ h hb => QP.below h hb) hij hV hR
          by_cases hj9 : j = 9
          · subst hj9
            exact GV.keep (sp := QP (we.drew.heap.size) ([e5A]) (true) (0) [7, 8] [9, 12]) (fun _ _ _ _ h hb => QP.below h hb) hij hV hR
          by_cases hj12 : j = 12
          · subst hj12
            exact GV.keep (sp := QP (we.drew.heap.size) ([e5A]) (true) (0) [7, 8] [9, 12]) (fun _ _ _ _ h hb => QP.below h hb) hij hV hR
          exact gvq_keep (by simp; omega) hij hV
        case step =>
          refine ⟨?_, ?_, ?_, ?_, ?_, ?_, ?_, ?_, ?_, ?_, ?_, ?_, ?_, ?_, ?_, trivial⟩
          · intro listed ys X W1 hsz hsd hi2 hall hX hI hd K hK
            have e5 : X.tmps.getD 5 undef = .iface tk (.pointer (some ⟨gb, 0, none⟩)) := hX 5 (Nat.le_of_ble_eq_true rfl)
            have HI := Lib.hid hI
            refine H3.step_run (.inl rfl) ?_
            clear hX hd hI
            go_simp
            exact hK _ _ HI.out (Below.refl _ _) (GV.of (by decide) (fun u h => by cases h; rfl))
          · intro listed ys X W1 hsz hsd hi2 hall hX hI hd K hK
            have e6 : X.tmps.getD 6 undef = .pointer (some ⟨wb.heap.size, 0, none⟩) := hX 6 (Nat.le_of_ble_eq_true rfl)
            have hx := HKA2.out W1 hI
            have x0 := hx.cell 0
            have x1 := hx.cell 1
            have x2 := hx.cell 2
            have x3 := hx.cell 3
            have x4 := hx.cell 4
            simp only [List.getElem?_toArray, List.getElem?_cons_succ, List.getElem?_cons_zero] at x0 x1 x2 x3 x4
            clear hx
            have HI := Lib.hid hI
            refine H3.step_run (.inl rfl) ?_
            clear hX hd hI
            go_simp
            exact hK _ _ HI.out (Below.refl _ _) (GV.of (by decide) (fun u h => by cases h; rfl))
          · intro listed ys X W1 hsz hsd hi2 hall hX hI hd K hK
            have e58 : X.tmps.getD 58 undef = .agg #[.int .i64 (k : Int), .int .i64 0, .int .i64 5, .slice none 0 0, .slice none 0 0] := (hX 58 (Nat.le_of_ble_eq_true rfl)).trans (GV.val (hd ⟨1, .data⟩ (by simp) rfl) (by decide) rfl)
            have HI := Lib.hid hI
            refine H3.step_run (.inl rfl) ?_
            clear hX hd hI
            go_simp
            refine ⟨trivial, (callsIn_wide.2 (HANY.out W1)).mono ?_⟩
            rintro x w7 ⟨rfl, hb⟩
            exact hK _ _ (HI.out.trans (hb.mono HI.out.size)) hb (GV.of (by decide) (fun u h => by cases h; rfl))
          · intro listed ys X W1 hsz hsd hi2 hall hX hI hd K hK
            have HI := Lib.hid hI
            refine H3.step_run (.inl rfl) ?_
            clear hX hd hI
            go_simp
            exact hK _ _ HI.out (Below.refl _ _) (GV.of (by decide) (fun u h => by cases h; rfl))
          · intro listed ys X W1 hsz hsd hi2 hall hX hI hd K hK
            have e57 : X.tmps.getD 57 undef = .iface tk (.pointer (some ⟨gb, 0, none⟩)) := (hX 57 (Nat.le_of_ble_eq_true rfl)).trans (GV.val (hd ⟨0, .data⟩ (by simp) rfl) (by decide) rfl)
            have HI := Lib.hid hI
            refine H3.step_run (.inl rfl) ?_
            clear hX hd hI
            go_simp
            exact hK _ _ HI.out (Below.refl _ _) (GV.of (by decide) (fun u h => by cases h; rfl))
          · intro listed ys X W1 hsz hsd hi2 hall hX hI hd K hK
            have e61 : X.tmps.getD 61 undef = .func (.method "Ask") #[.iface tk (.pointer (some ⟨gb, 0, none⟩))] #[] := (hX 61 (Nat.le_of_ble_eq_true rfl)).trans (GV.val (hd ⟨4, .data⟩ (by simp) rfl) (by decide) rfl)
            have HI := Lib.hid hI
            refine H3.step_run (.inl rfl) ?_
            clear hX hd hI
            go_simp
            exact hK _ _ HI.out (Below.refl _ _) (GV.of (by decide) (fun u h => by cases h; rfl))
          · intro listed ys X W1 hsz hsd hi2 hall hX hI hd K hK
            have e57 : X.tmps.getD 57 undef = .iface tk (.pointer (some ⟨gb, 0, none⟩)) := (hX 57 (Nat.le_of_ble_eq_true rfl)).trans (GV.val (hd ⟨0, .data⟩ (by simp) rfl) (by decide) rfl)
            have HI := Lib.hid hI
            refine H3.step_run (.inl rfl) ?_
            clear hX hd hI
            go_simp
            exact hK _ _ HI.out (Below.refl _ _) (GV.of (by decide) (fun u h => by cases h; rfl))
          · intro listed ys X W1 hsz hsd hi2 hall hX hI hd K hK
            have e63 : X.tmps.getD 63 undef = .iface tk (.pointer (some ⟨gb, 0, none⟩)) := (hX 63 (Nat.le_of_ble_eq_true rfl)).trans (GV.val (hd ⟨6, .data⟩ (by simp) rfl) (by decide) rfl)
            have e59 : X.tmps.getD 59 undef = dv := (hX 59 (Nat.le_of_ble_eq_true rfl)).trans (GV.val (hd ⟨2, .data⟩ (by simp) rfl) (by decide) rfl)
            have e60 : X.tmps.getD 60 undef = .agg #[.bool false, .int .i64 0, .slice none 0 0, .string ⟨#[]⟩] := (hX 60 (Nat.le_of_ble_eq_true rfl)).trans (GV.val (hd ⟨3, .data⟩ (by simp) rfl) (by decide) rfl)
            have HI := Lib.hid hI
            have HC := Lib.hid (HASK2.out W1 hI)
            have hBW := HI.out.size
            refine H3.step_run (.inl rfl) ?_
            clear hX hd hI
            go_simp
            refine ⟨trivial, (callsIn_wide.2 HC.out).mono ?_⟩
            rintro x w7 ⟨u, rfl, hent, hb⟩
            exact hK _ _ (HI.out.trans (hb.mono HI.out.size)) hb (GV.ofsp (by decide) (show QP (we.drew.heap.size) ([e5A]) (true) (0) [7, 8] [9, 12] 7 _ w7 from ⟨fun _ => ⟨u, rfl, hent.mono (fun b hb2 _ => Nat.le_trans hBW hb2) (fun _ _ _ => trivial)⟩, fun h => absurd h (by decide)⟩))
          · intro listed ys X W1 hsz hsd hi2 hall hX hI hd K hK
            have e64 : X.tmps.getD 64 undef = ys 7 := hX 64 (Nat.le_of_ble_eq_true rfl)
            have hv7 := GV.spv (hd ⟨7, .data⟩ (by simp) rfl) (by decide)
            have HI := Lib.hid hI
            have HV := Lib.hid (hv7.1 (by decide))
            refine H3.step_run (.inl rfl) ?_
            clear hX hd hI hv7
            go_simp
            exact hK _ _ HI.out (Below.refl _ _) (GV.ofsp (by decide) (show QP (we.drew.heap.size) ([e5A]) (true) (0) [7, 8] [9, 12] 8 _ W1 from ⟨fun _ => HV.out, fun h => absurd h (by decide)⟩))
          · intro listed ys X W1 hsz hsd hi2 hall hX hI hd K hK
            have e56 : X.tmps.getD 56 undef = ys 8 := hX 56 (Nat.le_of_ble_eq_true rfl)
            have hv8 := GV.spv (hd ⟨8, .data⟩ (by simp) rfl) (by decide)
            have HI := Lib.hid hI
            obtain ⟨u, hv, hent⟩ : AT16 (we.drew.heap.size) ([e5A]) (true) (0) (ys 8) W1 := hv8.1 (by decide)
            rw [hv] at e56
            have HV := Lib.hid hent
            refine H3.step_run (.inl rfl) ?_
            clear hX hd hI hent hv hv8
            go_simp
            exact hK _ _ HI.out (Below.refl _ _) (GV.ofsp (by decide) (show QP (we.drew.heap.size) ([e5A]) (true) (0) [7, 8] [9, 12] 9 _ W1 from ⟨fun h => absurd h (by decide), fun _ => HV.out⟩))
          · intro listed ys X W1 hsz hsd hi2 hall hX hI hd K hK
            have e56 : X.tmps.getD 56 undef = ys 8 := hX 56 (Nat.le_of_ble_eq_true rfl)
            have hv8 := GV.spv (hd ⟨8, .data⟩ (by simp) rfl) (by decide)
            have HI := Lib.hid hI
            obtain ⟨u, hv, hent⟩ : AT16 (we.drew.heap.size) ([e5A]) (true) (0) (ys 8) W1 := hv8.1 (by decide)
            rw [hv] at e56
            have HV := Lib.hid hent
            refine H3.step_run (.inl rfl) ?_
            clear hX hd hI hent hv hv8
            go_simp
            exact hK _ _ HI.out (Below.refl _ _) (GV.of (by decide) (fun u h => by cases h; rfl))
          · intro listed ys X W1 hsz hsd hi2 hall hX hI hd K hK
            have e56 : X.tmps.getD 56 undef = ys 8 := hX 56 (Nat.le_of_ble_eq_true rfl)
            have hv8 := GV.spv (hd ⟨8, .data⟩ (by simp) rfl) (by decide)
            have HI := Lib.hid hI
            obtain ⟨u, hv, hent⟩ : AT16 (we.drew.heap.size) ([e5A]) (true) (0) (ys 8) W1 := hv8.1 (by decide)
            rw [hv] at e56
            have HV := Lib.hid hent
            refine H3.step_run (.inl rfl) ?_
            clear hX hd hI hent hv hv8
            go_simp
            exact hK _ _ HI.out (Below.refl _ _) (GV.of (by decide) (fun u h => by cases h; rfl))
          · intro listed ys X W1 hsz hsd hi2 hall hX hI hd K hK
            have e65 : X.tmps.getD 65 undef = ys 9 := hX 65 (Nat.le_of_ble_eq_true rfl)
            have hv9 := GV.spv (hd ⟨9, .data⟩ (by simp) rfl) (by decide)
            have HI := Lib.hid hI
            have HV := Lib.hid (hv9.2 (by decide))
            refine H3.step_run (.inl rfl) ?_
            clear hX hd hI hv9
            go_simp
            exact hK _ _ HI.out (Below.refl _ _) (GV.ofsp (by decide) (show QP (we.drew.heap.size) ([e5A]) (true) (0) [7, 8] [9, 12] 12 _ W1 from ⟨fun h => absurd h (by decide), fun _ => HV.out⟩))
          · intro listed ys X W1 hsz hsd hi2 hall hX hI hd K hK
            have e66 : X.tmps.getD 66 undef = .bool (true) := (hX 66 (Nat.le_of_ble_eq_true rfl)).trans (GV.val (hd ⟨10, .data⟩ (by simp) rfl) (by decide) rfl)
            have HI := Lib.hid hI
            refine H3.step_run (.inl rfl) ?_
            clear hX hd hI
            go_simp
            exact hK _ _ HI.out (Below.refl _ _) (GV.of (by decide) (fun u h => by cases h; rfl))
          · intro listed ys X W1 hsz hsd hi2 hall hX hI hd K hK
            have e67 : X.tmps.getD 67 undef = .int .i64 (0) := (hX 67 (Nat.le_of_ble_eq_true rfl)).trans (GV.val (hd ⟨11, .data⟩ (by simp) rfl) (by decide) rfl)
            have HI := Lib.hid hI
            refine H3.step_run (.inl rfl) ?_
            clear hX hd hI
            go_simp
            exact hK _ _ HI.out (Below.refl _ _) (GV.of (by decide) (fun u h => by cases h; rfl))
        case fin =>
          intro listed ys2 wf hall hI hV
          obtain ⟨-, hE⟩ := GV.spv (hV 12 (by decide) rfl) (by decide)
          have hent5 := hE (by decide)
          have h13 := GV.val (hV 13 (by decide) rfl) (by decide) rfl
          have h14 := GV.val (hV 14 (by decide) rfl) (by decide) rfl
          obtain ⟨lv6, hlv6⟩ : ∃ v, ys2 12 = v := ⟨_, rfl⟩
          rw [hlv6] at hent5
          obtain ⟨xl6, xc6, rfl, _⟩ := id hent5
          have hbf := below_mid (lay_below ((Keep.refl (fun _ => False) we).drew)) hI
          have HLEN := Lib.hid (lenF_any (HENG2.out.below HPE.out hbf))
          have HFIN : Hid (Below w.heap.size w wf) := Lib.hid (HBE.out.trans (hbf.mono HBE.out.size))
          clear hent5 hE hI hV hall hbf HKA2 HASK2
          simp only [H3.putsFrom]
          simp only [hlv6, h13, h14, Nat.zero_add, Nat.reduceAdd, Act.put, List.setIfInBounds_toArray, List.set_cons_succ, List.set_cons_zero]
          clear hlv6 h13 h14
          go_wp2_with (refine HLEN.out.mono ?_; rintro x wg ⟨rfl, rfl⟩)
          go_ret
          exact ⟨rfl, HFIN.out⟩
      · have hr := makes_no hq []
        have hL : LL = [] := by rw [HLL.out, hr]
        have hB : bb = false := by rw [HBO.out, hr]
        have hK : kk = 12 := by rw [HKK.out, hr]
        have hqb : (q != (k : Int)) = true := by simpa using hq
        subst hL hB hK
        clear hr HLL HBO HKK hq
        go_wp2_with fail
        go_ret
        exact ⟨rfl, below_mid HBB.out HBD.out⟩
  · have hn : (kind < 1 ∨ 3 < kind) := by omega
    go_enter Tryz.func4, Tryz.ntmps4
    go_upto_region 3 with (go_at_call 6; refine HAL.out.mono ?_; rintro x wa ⟨rfl, hba⟩)
    have HMK := Lib.hid (make_no hk wa)
    have HBA := Lib.hid hba
    clear hba HAL hk
    go_wp2_with (go_at_call 18; refine HMK.out.mono ?_; rintro x wb ⟨rfl, rfl⟩)
    all_goals first | (go_ret; exact ⟨rfl, HBA.out⟩) | skip
end Go.Proofs.YtoobjjpheegmdaaGreat.E4
