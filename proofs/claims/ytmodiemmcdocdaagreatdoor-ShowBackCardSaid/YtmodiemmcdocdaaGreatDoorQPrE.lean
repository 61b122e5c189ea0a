/-
  PACKAGE parse: Parse.
  THE LAWS' OWN: Parse as it is called, and that the document's examples are answered.
-/
import Derived.Test.YtmodiemmcdocdaaGreatDoorQPrD
import Derived.Test.YtmodiemmcdocdaaGreatDoorQOwB
import Derived.BigRegion
import Derived.Laws.StructEq
namespace Go.Proofs.YtmodiemmcdocdaaGreatDoor
open Go.RowKit Go
open PX (tk isT)

theorem parse_is (l : List UInt8) : PX.parse l = match LX.lex l with | .error e => .error e | .ok ts => queryX ts := by
  unfold PX.parse
  rcases LX.lex l with e | ts
  · rfl
  · exact queryX_is ts

/-- What Parse answers. -/
def ParseR (r : Except (Nat × Nat) Qy) (w : World) (e : Ending) (w' : World) : Prop :=
  Below w.heap.size w w' ∧ match r with
    | .error p => e = .returned (.tuple #[zeroQ, .agg #[.int .i64 (p.1 : Nat), .int .i64 (p.2 : Nat)]])
    | .ok q => ∃ v, e = .returned (.tuple #[v, .agg #[.int .i64 0, .int .i64 0]]) ∧ QAt w' v q

theorem CB.all2 {W : World} {B : Nat} {t : TypeId} {u0 u1 : Value} (h : CB W B t #[u0, u1]) (v0 v1 : Value) : CB ((W.setCell ⟨B, 0, none⟩ v0).setCell ⟨B, 1, none⟩ v1) B t #[v0, v1] := (h.set 0 v0).set 1 v1
theorem CB.drew {W : World} {B : Nat} {t : TypeId} {arr : Array Value} (h : CB W B t arr) : CB W.drew B t arr := h
theorem below_drew {n : Nat} {w W : World} (h : Below n w W) (hn : n ≤ W.heap.size) : Below n w W.drew := h.trans ((Lay.below (Keep.drew (Keep.refl _ W))).mono hn)
theorem CB.below {n : Nat} {W W' : World} {B : Nat} {t : TypeId} {arr : Array Value} (h : CB W B t arr) (hk : Below n W W') (hn : B < n) : CB W' B t arr := (hk.block B hn).trans h

theorem ends_at {W : World} {R F : Nat} {u0 u1 u2 u3 u4 u5 u6 u7 u8 u9 t0 t1 : Value} (hR : CB W R 28 #[u0, u1, u2, u3, u4, u5, u6, u7, u8, u9]) (hF : CB W F 31 #[t0, t1]) (hne : F ≠ R) (v0 v1 v2 v3 v4 v5 v6 v7 v8 v9 e0 e1 : Value) :
    CB (((stored10 W R v0 v1 v2 v3 v4 v5 v6 v7 v8 v9).setCell ⟨F, 0, none⟩ e0).setCell ⟨F, 1, none⟩ e1) R 28 #[v0, v1, v2, v3, v4, v5, v6, v7, v8, v9] ∧ CB (((stored10 W R v0 v1 v2 v3 v4 v5 v6 v7 v8 v9).setCell ⟨F, 0, none⟩ e0).setCell ⟨F, 1, none⟩ e1) F 31 #[e0, e1] := by
  have h1 := CB.all10 hR v0 v1 v2 v3 v4 v5 v6 v7 v8 v9
  have h2 : CB (stored10 W R v0 v1 v2 v3 v4 v5 v6 v7 v8 v9) F 31 #[t0, t1] := hF.keep (keep_stored10 (Keep.refl (fun k => k = R) W) (.inr rfl) v0 v1 v2 v3 v4 v5 v6 v7 v8 v9) hne
  exact ⟨h1.keep (((Keep.refl (fun k => k = F) _).setCell (p := ⟨F, 0, none⟩) (.inr rfl) e0).setCell (p := ⟨F, 1, none⟩) (.inr rfl) e1) (fun e => hne e.symm), h2.all2 e0 e1⟩
theorem ends_keep (W : World) (R : Nat) (u0 u1 u2 u3 u4 u5 u6 u7 u8 u9 e0 e1 : Value) : Keep (fun k => k = R ∨ k = R + 1) W (((stored10 W R u0 u1 u2 u3 u4 u5 u6 u7 u8 u9).setCell ⟨R + 1, 0, none⟩ e0).setCell ⟨R + 1, 1, none⟩ e1) :=
  ((keep_stored10 (Keep.refl (fun k => k = R ∨ k = R + 1) W) (.inr (.inl rfl)) u0 u1 u2 u3 u4 u5 u6 u7 u8 u9).setCell (p := ⟨R + 1, 0, none⟩) (.inr (.inr rfl)) e0).setCell (p := ⟨R + 1, 1, none⟩) (.inr (.inr rfl)) e1
theorem ends_below {w W : World} (hb : Below w.heap.size w W) (v0 v1 v2 v3 v4 v5 v6 v7 v8 v9 e0 e1 : Value) : Below w.heap.size w (((stored10 W w.heap.size v0 v1 v2 v3 v4 v5 v6 v7 v8 v9).setCell ⟨w.heap.size + 1, 0, none⟩ e0).setCell ⟨w.heap.size + 1, 1, none⟩ e1) :=
  ((hb.trans ((keep_stored10 (Keep.refl (fun k => k = w.heap.size) W) (.inr rfl) v0 v1 v2 v3 v4 v5 v6 v7 v8 v9).below (fun _k h => Nat.le_of_eq h.symm) hb.size)).setCell (p := ⟨w.heap.size + 1, 0, none⟩) (Nat.le_succ _) e0).setCell (p := ⟨w.heap.size + 1, 1, none⟩) (Nat.le_succ _) e1

set_option maxHeartbeats 8000000 in
set_option maxRecDepth 100000 in
theorem parse_own (s : ByteArray) (hs : s.size ≤ 1048576) (w : World) (hT : Tabs w) : Calls Tryz.prog 11 #[.string s] w (ParseR (PX.parse s.data.toList) w) := by
  obtain ⟨w0, hW⟩ : ∃ w0, w0 = (w.alloc (.cells #[.int .i64 0, .int .i64 0, .slice none 0 0, .int .i64 0, .string ⟨#[]⟩, .string ⟨#[]⟩, .slice none 0 0, .bool false, .int .i64 0, .string ⟨#[]⟩] 28)).alloc (.cells #[.int .i64 0, .int .i64 0] 31) := ⟨_, rfl⟩
  have hlw : Lay w w0 := by rw [hW]; exact ((Keep.refl _ w).alloc _).alloc _
  have hsz : w0.heap.size = w.heap.size + 1 + 1 := by rw [hW]; simp
  have hr0 : CB w0 w.heap.size 28 #[.int .i64 0, .int .i64 0, .slice none 0 0, .int .i64 0, .string ⟨#[]⟩, .string ⟨#[]⟩, .slice none 0 0, .bool false, .int .i64 0, .string ⟨#[]⟩] := by
    rw [hW]
    exact (CB.new w 28 _).keep ((Keep.refl (fun _ => False) _).alloc _) (fun h => h)
  have hf0 : CB w0 (w.heap.size + 1) 31 #[.int .i64 0, .int .i64 0] := by
    rw [hW]
    have := CB.new (w.alloc (.cells #[.int .i64 0, .int .i64 0, .slice none 0 0, .int .i64 0, .string ⟨#[]⟩, .string ⟨#[]⟩, .slice none 0 0, .bool false, .int .i64 0, .string ⟨#[]⟩] 28)) 31 #[.int .i64 0, .int .i64 0]
    rw [show (w.alloc (.cells #[.int .i64 0, .int .i64 0, .slice none 0 0, .int .i64 0, .string ⟨#[]⟩, .string ⟨#[]⟩, .slice none 0 0, .bool false, .int .i64 0, .string ⟨#[]⟩] 28)).heap.size = w.heap.size + 1 by simp] at this
    exact this
  have HW := Lib.hid hW.symm
  clear hW
  have hT0 := hT.next hlw.below
  have HLX := Lib.hid (Own.lex_any s hs w0 hT0)
  have HT0 := Lib.hid hT0
  have HR0 := Lib.hid hr0
  have HF0 := Lib.hid hf0
  have HSZ := Lib.hid hsz
  have HBL0 := Lib.hid hlw.below
  clear hT hT0 hlw hsz hr0 hf0
  obtain ⟨FIN, hFIN⟩ : ∃ FIN, FIN = PX.parse s.data.toList := ⟨_, rfl⟩
  rw [← hFIN]
  have HFIN := Lib.hid (hFIN.trans (parse_is _))
  clear hFIN
  rcases hlex : LX.lex s.data.toList with p | ts
  · have HF : Hid (FIN = .error p) := Lib.hid (by rw [HFIN.out, hlex])
    have hp0 : ((p.1 : Int) != 0) = true := by
      have := lex_err hlex
      simp
      omega
    rw [hlex] at HLX
    clear hlex HFIN
    go_enter Tryz.func11, Tryz.ntmps11
    go_wp2_with fail
    rw [HW.out]
    refine HLX.out.mono ?_
    rintro e w1 ⟨hb, a, c, rfl⟩
    have hz1 := hb.size
    rw [HSZ.out] at hz1
    have hl : Lay w1 (w1.alloc (.cells #[.int .i64 (p.1 : Nat), .int .i64 (p.2 : Nat)] 31)) := (Keep.refl _ w1).alloc _
    have HR1 := Lib.hid ((HR0.out.below hb (by rw [HSZ.out]; omega)).keep hl (fun h => h))
    have HF1 := Lib.hid ((HF0.out.below hb (by rw [HSZ.out]; omega)).keep hl (fun h => h))
    have HA1 := Lib.hid (CB.new w1 31 #[.int .i64 (p.1 : Nat), .int .i64 (p.2 : Nat)])
    have HB1 := Lib.hid ((HBL0.out.trans (hb.mono HBL0.out.size)).trans (hl.below.mono (by omega)))
    have hne1 : ¬ w.heap.size = w1.heap.size := by omega
    have hne2 : ¬ w.heap.size + 1 = w1.heap.size := by omega
    have HZ1 := Lib.hid hz1
    clear hb hl hz1
    have d0 := HA1.out.cell 0
    have d1 := HA1.out.cell 1
    have r0 := HR1.out.cell 0
    have f0 := HR1.out.frozen 0
    have r1 := HR1.out.cell 1
    have f1 := HR1.out.frozen 1
    have r2 := HR1.out.cell 2
    have f2 := HR1.out.frozen 2
    have r3 := HR1.out.cell 3
    have f3 := HR1.out.frozen 3
    have r4 := HR1.out.cell 4
    have f4 := HR1.out.frozen 4
    have r5 := HR1.out.cell 5
    have f5 := HR1.out.frozen 5
    have r6 := HR1.out.cell 6
    have f6 := HR1.out.frozen 6
    have r7 := HR1.out.cell 7
    have f7 := HR1.out.frozen 7
    have r8 := HR1.out.cell 8
    have f8 := HR1.out.frozen 8
    have r9 := HR1.out.cell 9
    have f9 := HR1.out.frozen 9
    have t0 := HF1.out.cell 0
    have k0 := HF1.out.frozen 0
    have t1 := HF1.out.cell 1
    have k1 := HF1.out.frozen 1
    go_wp2_with fail
    go_region
    go_wp2_with fail
    obtain ⟨hq, hp⟩ := ends_at HR1.out HF1.out (by omega) (.int .i64 0) (.int .i64 0) (.slice none 0 0) (.int .i64 0) (.string ⟨#[]⟩) (.string ⟨#[]⟩) (.slice none 0 0) (.bool false) (.int .i64 0) (.string ⟨#[]⟩) (.int .i64 (p.1 : Nat)) (.int .i64 (p.2 : Nat))
    have hbl := ends_below HB1.out (.int .i64 0) (.int .i64 0) (.slice none 0 0) (.int .i64 0) (.string ⟨#[]⟩) (.string ⟨#[]⟩) (.slice none 0 0) (.bool false) (.int .i64 0) (.string ⟨#[]⟩) (.int .i64 (p.1 : Nat)) (.int .i64 (p.2 : Nat))
    obtain ⟨W9, hW9⟩ : ∃ W9, W9 = (((stored10 (w1.alloc (.cells #[.int .i64 (p.1 : Nat), .int .i64 (p.2 : Nat)] 31)) w.heap.size (.int .i64 0) (.int .i64 0) (.slice none 0 0) (.int .i64 0) (.string ⟨#[]⟩) (.string ⟨#[]⟩) (.slice none 0 0) (.bool false) (.int .i64 0) (.string ⟨#[]⟩)).setCell ⟨w.heap.size + 1, 0, none⟩ (.int .i64 (p.1 : Nat))).setCell ⟨w.heap.size + 1, 1, none⟩ (.int .i64 (p.2 : Nat))).drew := ⟨_, rfl⟩
    have hq9 : CB W9 w.heap.size 28 #[.int .i64 0, .int .i64 0, .slice none 0 0, .int .i64 0, .string ⟨#[]⟩, .string ⟨#[]⟩, .slice none 0 0, .bool false, .int .i64 0, .string ⟨#[]⟩] := by rw [hW9]; exact hq.drew
    have hp9 : CB W9 (w.heap.size + 1) 31 #[.int .i64 (p.1 : Nat), .int .i64 (p.2 : Nat)] := by rw [hW9]; exact hp.drew
    have hb9 : Below w.heap.size w W9 := by rw [hW9]; exact below_drew hbl hbl.size
    unfold stored10 at hW9
    rw [← hW9]
    clear hW9 hq hp hbl r0 r1 r2 r3 r4 r5 r6 r7 r8 r9 f0 f1 f2 f3 f4 f5 f6 f7 f8 f9 t0 t1 k0 k1 d0 d1
    have r0 := hq9.cell 0
    have f0 := hq9.frozen 0
    have r1 := hq9.cell 1
    have f1 := hq9.frozen 1
    have r2 := hq9.cell 2
    have f2 := hq9.frozen 2
    have r3 := hq9.cell 3
    have f3 := hq9.frozen 3
    have r4 := hq9.cell 4
    have f4 := hq9.frozen 4
    have r5 := hq9.cell 5
    have f5 := hq9.frozen 5
    have r6 := hq9.cell 6
    have f6 := hq9.frozen 6
    have r7 := hq9.cell 7
    have f7 := hq9.frozen 7
    have r8 := hq9.cell 8
    have f8 := hq9.frozen 8
    have r9 := hq9.cell 9
    have f9 := hq9.frozen 9
    have t0 := hp9.cell 0
    have k0 := hp9.frozen 0
    have t1 := hp9.cell 1
    have k1 := hp9.frozen 1
    refine bodyPost_ret (v := .tuple #[zeroQ, .agg #[.int .i64 (p.1 : Nat), .int .i64 (p.2 : Nat)]]) (by simp [results, Tryz.results11, go_sem, zeroQ, r0, r1, r2, r3, r4, r5, r6, r7, r8, r9, t0, t1]) rfl ?_
    unfold ParseR
    rw [HF.out]
    exact ⟨hb9, rfl⟩
  · have HEN := Lib.hid (PX.lex_ended hlex)
    have HFEW : Hid (ts.length ≤ 1100) := Lib.hid (by have := LX.lex_count hlex; omega)
    have HF1 : Hid (FIN = queryX ts) := Lib.hid (by rw [HFIN.out, hlex])
    rw [hlex] at HLX
    clear hlex HFIN
    go_enter Tryz.func11, Tryz.ntmps11
    go_wp2_with fail
    rw [HW.out]
    refine HLX.out.mono ?_
    rintro e w1 ⟨hb, v, rfl, hrk⟩
    obtain ⟨_, ⟨_, h0⟩ | ⟨g, cap, rfl, hg, hgl, hlc, hm, hc, hfz⟩⟩ := hrk
    · have := HEN.out.pos
      omega
    have hz1 := hb.size
    rw [HSZ.out] at hz1 hg
    have hl2 : Lay w1 ((w1.alloc (.cells #[.int .i64 0, .int .i64 0] 31)).alloc (.cells #[.slice (some ⟨g, 0, none⟩) ts.length cap, .int .i64 0] 58)) := ((Keep.refl _ w1).alloc _).alloc _
    have hcb : CB ((w1.alloc (.cells #[.int .i64 0, .int .i64 0] 31)).alloc (.cells #[.slice (some ⟨g, 0, none⟩) ts.length cap, .int .i64 0] 58)) (w1.heap.size + 1) 58 #[.slice (some ⟨g, 0, none⟩) ts.length cap, .int .i64 0] := by
      have := CB.new (w1.alloc (.cells #[.int .i64 0, .int .i64 0] 31)) 58 #[.slice (some ⟨g, 0, none⟩) ts.length cap, .int .i64 0]
      rw [show (w1.alloc (.cells #[.int .i64 0, .int .i64 0] 31)).heap.size = w1.heap.size + 1 by simp] at this
      exact this
    have HQ2 : Hid (PQS (w1.heap.size + 1) g cap ts 0 0 ((w1.alloc (.cells #[.int .i64 0, .int .i64 0] 31)).alloc (.cells #[.slice (some ⟨g, 0, none⟩) ts.length cap, .int .i64 0] 58))) := Lib.hid (by
      refine ⟨by simpa using hcb, by omega, by simp; omega, fun j hj => (hl2.cell hgl).trans (hc j (by rw [flatT_length]; omega)), HEN.out.pos, hlc, by omega⟩)
    have HR2 := Lib.hid ((HR0.out.below hb (by rw [HSZ.out]; omega)).keep hl2 (fun h => h))
    have HF2 := Lib.hid ((HF0.out.below hb (by rw [HSZ.out]; omega)).keep hl2 (fun h => h))
    have HB2 := Lib.hid ((HBL0.out.trans (hb.mono HBL0.out.size)).trans (hl2.below.mono (by omega)))
    have HTB2 := Lib.hid (HT0.out.next (hb.trans (hl2.below.mono hb.size)))
    have HZ2 : Hid (w1.heap.size + 1 + 1 = ((w1.alloc (.cells #[.int .i64 0, .int .i64 0] 31)).alloc (.cells #[.slice (some ⟨g, 0, none⟩) ts.length cap, .int .i64 0] 58)).heap.size) := Lib.hid (by simp)
    have HZ1 := Lib.hid hz1
    clear hb hg hgl hlc hm hc hfz hz1 hl2 hcb
    go_wp2_with fail
    revert HQ2 HR2 HF2 HB2 HTB2 HZ2
    generalize (w1.alloc (.cells #[.int .i64 0, .int .i64 0] 31)).alloc (.cells #[.slice (some ⟨g, 0, none⟩) ts.length cap, .int .i64 0] 58) = w2
    intro HQ2 HR2 HF2 HB2 HTB2 HZ2
    refine (query_own (w1.heap.size + 1) g cap ts w2 HQ2.out HEN.out HFEW.out).mono ?_
    rintro e w3 ⟨hk, ho⟩
    have hkb : Below (w1.heap.size + 1) w2 w3 := hk.below (fun k h => Nat.le_of_eq h.symm) (by rw [← HZ2.out]; omega)
    have HR3 := Lib.hid (HR2.out.keep hk (by have := HZ1.out; omega))
    have HF3 := Lib.hid (HF2.out.keep hk (by have := HZ1.out; omega))
    have HB3 := Lib.hid (HB2.out.trans (hkb.mono (by have := HZ1.out; omega)))
    have HT3 : Hid (w3.cell? ⟨0, 0, none⟩ = some (.iface 151 (.agg #[.pointer (some ⟨10, 60, none⟩)]))) := Lib.hid ((World.cell?_of_block (a := ⟨0, 0, none⟩) (hk.block 0 (by rw [← HZ2.out]; omega) (by omega))).trans HTB2.out.etyCell)
    have HZ3 : Hid (w1.heap.size + 1 + 1 ≤ w3.heap.size) := Lib.hid (by rw [HZ2.out]; exact hk.size)
    clear hk hkb
    revert ho
    rcases hr : queryX ts with p | q
    · have HF : Hid (FIN = .error p) := Lib.hid (HF1.out.trans hr)
      clear hr
      rintro rfl
      have hl4 : Lay w3 ((w3.alloc (.cells #[.int .i64 0, .int .i64 0, .slice none 0 0, .int .i64 0, .string ⟨#[]⟩, .string ⟨#[]⟩, .slice none 0 0, .bool false, .int .i64 0, .string ⟨#[]⟩] 28)).alloc (.cells #[.int .i64 0, .int .i64 0] 63)) := ((Keep.refl _ w3).alloc _).alloc _
      have hc4 : CB ((w3.alloc (.cells #[.int .i64 0, .int .i64 0, .slice none 0 0, .int .i64 0, .string ⟨#[]⟩, .string ⟨#[]⟩, .slice none 0 0, .bool false, .int .i64 0, .string ⟨#[]⟩] 28)).alloc (.cells #[.int .i64 0, .int .i64 0] 63)) (w3.heap.size + 1) 63 #[.int .i64 0, .int .i64 0] := by
        have := CB.new (w3.alloc (.cells #[.int .i64 0, .int .i64 0, .slice none 0 0, .int .i64 0, .string ⟨#[]⟩, .string ⟨#[]⟩, .slice none 0 0, .bool false, .int .i64 0, .string ⟨#[]⟩] 28)) 63 #[.int .i64 0, .int .i64 0]
        rw [show (w3.alloc (.cells #[.int .i64 0, .int .i64 0, .slice none 0 0, .int .i64 0, .string ⟨#[]⟩, .string ⟨#[]⟩, .slice none 0 0, .bool false, .int .i64 0, .string ⟨#[]⟩] 28)).heap.size = w3.heap.size + 1 by simp] at this
        exact this
      have HR4 := Lib.hid (HR3.out.keep hl4 (fun h => h))
      have HF4 := Lib.hid (HF3.out.keep hl4 (fun h => h))
      have HB4 := Lib.hid (HB3.out.trans (hl4.below.mono HB3.out.size))
      have HT4 := Lib.hid ((hl4.cell (by have := HZ3.out; omega)).trans HT3.out)
      have HC4 := Lib.hid hc4
      have HZ4 : Hid (w3.heap.size + 1 + 1 = ((w3.alloc (.cells #[.int .i64 0, .int .i64 0, .slice none 0 0, .int .i64 0, .string ⟨#[]⟩, .string ⟨#[]⟩, .slice none 0 0, .bool false, .int .i64 0, .string ⟨#[]⟩] 28)).alloc (.cells #[.int .i64 0, .int .i64 0] 63)).heap.size) := Lib.hid (by simp)
      clear hl4 hc4
      simp only [zeroQ, errV]
      go_wp2_with fail
      revert HR4 HF4 HB4 HT4 HC4 HZ4
      generalize (w3.alloc (.cells #[.int .i64 0, .int .i64 0, .slice none 0 0, .int .i64 0, .string ⟨#[]⟩, .string ⟨#[]⟩, .slice none 0 0, .bool false, .int .i64 0, .string ⟨#[]⟩] 28)).alloc (.cells #[.int .i64 0, .int .i64 0] 63) = w4
      intro HR4 HF4 HB4 HT4 HC4 HZ4
      refine (as_hit (p.1 : Nat) (p.2 : Nat) (w3.heap.size + 1) (.int .i64 0) (.int .i64 0) w4 HT4.out (HC4.out.cell 0) (HC4.out.cell 1) (HC4.out.frozen 0) (HC4.out.frozen 1)).mono ?_
      rintro e w5 ⟨rfl, W, hlW, hw5⟩
      have hks : Keep (fun k => k = w3.heap.size + 1) w4 w5 := by
        rw [hw5]
        exact ((Lay.keep (G := fun k => k = w3.heap.size + 1) hlW).setCell (p := ⟨w3.heap.size + 1, 0, none⟩) (.inr rfl) _).setCell (p := ⟨w3.heap.size + 1, 1, none⟩) (.inr rfl) _
      have hc5 : CB w5 (w3.heap.size + 1) 63 #[.int .i64 (p.1 : Nat), .int .i64 (p.2 : Nat)] := by
        rw [hw5]
        exact (HC4.out.keep hlW (fun h => h)).all2 _ _
      have hz13 := HZ1.out
      have hz33 := HZ3.out
      have HR5 := Lib.hid (HR4.out.keep hks (by omega))
      have HF5 := Lib.hid (HF4.out.keep hks (by omega))
      have HB5 := Lib.hid (HB4.out.trans (hks.below (B := w.heap.size) (fun k h => by omega) HB4.out.size))
      have HC5 := Lib.hid hc5
      have hne1 : ¬ w.heap.size = w3.heap.size + 1 := by omega
      have hne2 : ¬ w.heap.size + 1 = w3.heap.size + 1 := by omega
      clear hks hc5 hlW hw5 hz13 hz33
      have d0 := HC5.out.cell 0
      have d1 := HC5.out.cell 1
      have r0 := HR5.out.cell 0
      have f0 := HR5.out.frozen 0
      have r1 := HR5.out.cell 1
      have f1 := HR5.out.frozen 1
      have r2 := HR5.out.cell 2
      have f2 := HR5.out.frozen 2
      have r3 := HR5.out.cell 3
      have f3 := HR5.out.frozen 3
      have r4 := HR5.out.cell 4
      have f4 := HR5.out.frozen 4
      have r5 := HR5.out.cell 5
      have f5 := HR5.out.frozen 5
      have r6 := HR5.out.cell 6
      have f6 := HR5.out.frozen 6
      have r7 := HR5.out.cell 7
      have f7 := HR5.out.frozen 7
      have r8 := HR5.out.cell 8
      have f8 := HR5.out.frozen 8
      have r9 := HR5.out.cell 9
      have f9 := HR5.out.frozen 9
      have t0 := HF5.out.cell 0
      have k0 := HF5.out.frozen 0
      have t1 := HF5.out.cell 1
      have k1 := HF5.out.frozen 1
      go_wp2_with fail
      go_region
      go_wp2_with fail
      obtain ⟨hq, hp⟩ := ends_at HR5.out HF5.out (by omega) (.int .i64 0) (.int .i64 0) (.slice none 0 0) (.int .i64 0) (.string ⟨#[]⟩) (.string ⟨#[]⟩) (.slice none 0 0) (.bool false) (.int .i64 0) (.string ⟨#[]⟩) (.int .i64 (p.1 : Nat)) (.int .i64 (p.2 : Nat))
      have hbl := ends_below HB5.out (.int .i64 0) (.int .i64 0) (.slice none 0 0) (.int .i64 0) (.string ⟨#[]⟩) (.string ⟨#[]⟩) (.slice none 0 0) (.bool false) (.int .i64 0) (.string ⟨#[]⟩) (.int .i64 (p.1 : Nat)) (.int .i64 (p.2 : Nat))
      obtain ⟨W9, hW9⟩ : ∃ W9, W9 = (((stored10 w5 w.heap.size (.int .i64 0) (.int .i64 0) (.slice none 0 0) (.int .i64 0) (.string ⟨#[]⟩) (.string ⟨#[]⟩) (.slice none 0 0) (.bool false) (.int .i64 0) (.string ⟨#[]⟩)).setCell ⟨w.heap.size + 1, 0, none⟩ (.int .i64 (p.1 : Nat))).setCell ⟨w.heap.size + 1, 1, none⟩ (.int .i64 (p.2 : Nat))).drew := ⟨_, rfl⟩
      have hq9 : CB W9 w.heap.size 28 #[.int .i64 0, .int .i64 0, .slice none 0 0, .int .i64 0, .string ⟨#[]⟩, .string ⟨#[]⟩, .slice none 0 0, .bool false, .int .i64 0, .string ⟨#[]⟩] := by rw [hW9]; exact hq.drew
      have hp9 : CB W9 (w.heap.size + 1) 31 #[.int .i64 (p.1 : Nat), .int .i64 (p.2 : Nat)] := by rw [hW9]; exact hp.drew
      have hb9 : Below w.heap.size w W9 := by rw [hW9]; exact below_drew hbl hbl.size
      unfold stored10 at hW9
      rw [← hW9]
      clear hW9 hq hp hbl r0 r1 r2 r3 r4 r5 r6 r7 r8 r9 f0 f1 f2 f3 f4 f5 f6 f7 f8 f9 t0 t1 k0 k1 d0 d1
      have r0 := hq9.cell 0
      have f0 := hq9.frozen 0
      have r1 := hq9.cell 1
      have f1 := hq9.frozen 1
      have r2 := hq9.cell 2
      have f2 := hq9.frozen 2
      have r3 := hq9.cell 3
      have f3 := hq9.frozen 3
      have r4 := hq9.cell 4
      have f4 := hq9.frozen 4
      have r5 := hq9.cell 5
      have f5 := hq9.frozen 5
      have r6 := hq9.cell 6
      have f6 := hq9.frozen 6
      have r7 := hq9.cell 7
      have f7 := hq9.frozen 7
      have r8 := hq9.cell 8
      have f8 := hq9.frozen 8
      have r9 := hq9.cell 9
      have f9 := hq9.frozen 9
      have t0 := hp9.cell 0
      have k0 := hp9.frozen 0
      have t1 := hp9.cell 1
      have k1 := hp9.frozen 1
      refine bodyPost_ret (v := .tuple #[zeroQ, .agg #[.int .i64 (p.1 : Nat), .int .i64 (p.2 : Nat)]]) (by simp [results, Tryz.results11, go_sem, zeroQ, r0, r1, r2, r3, r4, r5, r6, r7, r8, r9, t0, t1]) rfl ?_
      unfold ParseR
      rw [HF.out]
      exact ⟨hb9, rfl⟩
    · have HF : Hid (FIN = .ok q) := Lib.hid (HF1.out.trans hr)
      clear hr
      rintro ⟨mv, kv, rfl, hrk, hm, hkb⟩
      obtain ⟨am, cm, rfl⟩ := hrk.shape
      obtain ⟨ak, ck, rfl⟩ := hkb.shape
      unfold Qy.val
      have hl4 : Lay w3 ((w3.alloc (.cells #[.int .i64 q.src, .int .i64 q.til, .slice am q.mat.length cm, .int .i64 q.fil.op, .string q.fil.name, .string q.fil.text, .slice ak q.fil.kids.length ck, .bool q.desc, .int .i64 q.lim, .string q.page] 28)).alloc (.cells #[.int .i64 0, .int .i64 0] 63)) := ((Keep.refl _ w3).alloc _).alloc _
      have HC4 : Hid (CB ((w3.alloc (.cells #[.int .i64 q.src, .int .i64 q.til, .slice am q.mat.length cm, .int .i64 q.fil.op, .string q.fil.name, .string q.fil.text, .slice ak q.fil.kids.length ck, .bool q.desc, .int .i64 q.lim, .string q.page] 28)).alloc (.cells #[.int .i64 0, .int .i64 0] 63)) w3.heap.size 28 #[.int .i64 q.src, .int .i64 q.til, .slice am q.mat.length cm, .int .i64 q.fil.op, .string q.fil.name, .string q.fil.text, .slice ak q.fil.kids.length ck, .bool q.desc, .int .i64 q.lim, .string q.page]) := Lib.hid ((CB.new w3 28 #[.int .i64 q.src, .int .i64 q.til, .slice am q.mat.length cm, .int .i64 q.fil.op, .string q.fil.name, .string q.fil.text, .slice ak q.fil.kids.length ck, .bool q.desc, .int .i64 q.lim, .string q.page]).keep ((Keep.refl (fun _ => False) _).alloc (.cells #[.int .i64 0, .int .i64 0] 63)) (fun h => h))
      have HR4 := Lib.hid (HR3.out.keep hl4 (fun h => h))
      have HF4 := Lib.hid (HF3.out.keep hl4 (fun h => h))
      have HB4 := Lib.hid (HB3.out.trans (hl4.below.mono HB3.out.size))
      have HRK4 := Lib.hid (hrk.lay hl4)
      have HKB4 := Lib.hid (KsB.keep hl4.size (fun b _ hlt => hl4.block hlt) _ _ hkb)
      have HM := Lib.hid hm
      clear hl4 hrk hm hkb
      go_wp2_with fail
      revert HC4 HR4 HF4 HB4 HRK4 HKB4
      generalize (w3.alloc (.cells #[.int .i64 q.src, .int .i64 q.til, .slice am q.mat.length cm, .int .i64 q.fil.op, .string q.fil.name, .string q.fil.text, .slice ak q.fil.kids.length ck, .bool q.desc, .int .i64 q.lim, .string q.page] 28)).alloc (.cells #[.int .i64 0, .int .i64 0] 63) = w4
      intro HC4 HR4 HF4 HB4 HRK4 HKB4
      refine (as_nil _ w4).mono ?_
      rintro e w5 ⟨rfl, rfl⟩
      have hne1 : ¬ w.heap.size = w3.heap.size := by have := HZ1.out; have := HZ3.out; omega
      have hne2 : ¬ w.heap.size + 1 = w3.heap.size := by have := HZ1.out; have := HZ3.out; omega
      have d0 := HC4.out.cell 0
      have e0 := HC4.out.frozen 0
      have d1 := HC4.out.cell 1
      have e1 := HC4.out.frozen 1
      have d2 := HC4.out.cell 2
      have e2 := HC4.out.frozen 2
      have d3 := HC4.out.cell 3
      have e3 := HC4.out.frozen 3
      have d4 := HC4.out.cell 4
      have e4 := HC4.out.frozen 4
      have d5 := HC4.out.cell 5
      have e5 := HC4.out.frozen 5
      have d6 := HC4.out.cell 6
      have e6 := HC4.out.frozen 6
      have d7 := HC4.out.cell 7
      have e7 := HC4.out.frozen 7
      have d8 := HC4.out.cell 8
      have e8 := HC4.out.frozen 8
      have d9 := HC4.out.cell 9
      have e9 := HC4.out.frozen 9
      have r0 := HR4.out.cell 0
      have f0 := HR4.out.frozen 0
      have r1 := HR4.out.cell 1
      have f1 := HR4.out.frozen 1
      have r2 := HR4.out.cell 2
      have f2 := HR4.out.frozen 2
      have r3 := HR4.out.cell 3
      have f3 := HR4.out.frozen 3
      have r4 := HR4.out.cell 4
      have f4 := HR4.out.frozen 4
      have r5 := HR4.out.cell 5
      have f5 := HR4.out.frozen 5
      have r6 := HR4.out.cell 6
      have f6 := HR4.out.frozen 6
      have r7 := HR4.out.cell 7
      have f7 := HR4.out.frozen 7
      have r8 := HR4.out.cell 8
      have f8 := HR4.out.frozen 8
      have r9 := HR4.out.cell 9
      have f9 := HR4.out.frozen 9
      have t0 := HF4.out.cell 0
      have k0 := HF4.out.frozen 0
      have t1 := HF4.out.cell 1
      have k1 := HF4.out.frozen 1
      go_wp2_with fail
      obtain ⟨hq, hp⟩ := ends_at HR4.out HF4.out (by omega) (.int .i64 q.src) (.int .i64 q.til) (.slice am q.mat.length cm) (.int .i64 q.fil.op) (.string q.fil.name) (.string q.fil.text) (.slice ak q.fil.kids.length ck) (.bool q.desc) (.int .i64 q.lim) (.string q.page) (.int .i64 0) (.int .i64 0)
      have hbl := ends_below HB4.out (.int .i64 q.src) (.int .i64 q.til) (.slice am q.mat.length cm) (.int .i64 q.fil.op) (.string q.fil.name) (.string q.fil.text) (.slice ak q.fil.kids.length ck) (.bool q.desc) (.int .i64 q.lim) (.string q.page) (.int .i64 0) (.int .i64 0)
      have hks := ends_keep w4 w.heap.size (.int .i64 q.src) (.int .i64 q.til) (.slice am q.mat.length cm) (.int .i64 q.fil.op) (.string q.fil.name) (.string q.fil.text) (.slice ak q.fil.kids.length ck) (.bool q.desc) (.int .i64 q.lim) (.string q.page) (.int .i64 0) (.int .i64 0)
      obtain ⟨W9, hW9⟩ : ∃ W9, W9 = (((stored10 w4 w.heap.size (.int .i64 q.src) (.int .i64 q.til) (.slice am q.mat.length cm) (.int .i64 q.fil.op) (.string q.fil.name) (.string q.fil.text) (.slice ak q.fil.kids.length ck) (.bool q.desc) (.int .i64 q.lim) (.string q.page)).setCell ⟨w.heap.size + 1, 0, none⟩ (.int .i64 0)).setCell ⟨w.heap.size + 1, 1, none⟩ (.int .i64 0)) := ⟨_, rfl⟩
      rw [← hW9] at hq hp hbl hks
      unfold stored10 at hW9
      rw [← hW9]
      clear hW9 r0 r1 r2 r3 r4 r5 r6 r7 r8 r9 f0 f1 f2 f3 f4 f5 f6 f7 f8 f9 t0 t1 k0 k1 d0 d1 d2 d3 d4 d5 d6 d7 d8 d9 e0 e1 e2 e3 e4 e5 e6 e7 e8 e9
      have r0 := hq.cell 0
      have f0 := hq.frozen 0
      have r1 := hq.cell 1
      have f1 := hq.frozen 1
      have r2 := hq.cell 2
      have f2 := hq.frozen 2
      have r3 := hq.cell 3
      have f3 := hq.frozen 3
      have r4 := hq.cell 4
      have f4 := hq.frozen 4
      have r5 := hq.cell 5
      have f5 := hq.frozen 5
      have r6 := hq.cell 6
      have f6 := hq.frozen 6
      have r7 := hq.cell 7
      have f7 := hq.frozen 7
      have r8 := hq.cell 8
      have f8 := hq.frozen 8
      have r9 := hq.cell 9
      have f9 := hq.frozen 9
      have t0 := hp.cell 0
      have k0 := hp.frozen 0
      have t1 := hp.cell 1
      have k1 := hp.frozen 1
      refine bodyPost_ret (v := .tuple #[.agg #[.int .i64 q.src, .int .i64 q.til, .slice am q.mat.length cm, .int .i64 q.fil.op, .string q.fil.name, .string q.fil.text, .slice ak q.fil.kids.length ck, .bool q.desc, .int .i64 q.lim, .string q.page], .agg #[.int .i64 0, .int .i64 0]]) (by simp [results, Tryz.results11, go_sem, r0, r1, r2, r3, r4, r5, r6, r7, r8, r9, t0, t1]) rfl ?_
      unfold ParseR
      rw [HF.out]
      have hlow : ∀ b, w2.heap.size ≤ b → ¬ (b = w.heap.size ∨ b = w.heap.size + 1) := fun b hb => by rw [← HZ2.out] at hb; have := HZ1.out; omega
      exact ⟨hbl, _, rfl, _, _, rfl, MsAt.of_rk (HRK4.out.keep hks (fun b hb _ _ => hlow b hb)) (by have := HM.out; omega), KsB.at _ _ (KsB.keep hks.size (fun b hb hlt => hks.block b hlt (hlow b hb)) _ _ HKB4.out)⟩
end Go.Proofs.YtmodiemmcdocdaaGreatDoor

namespace Go.Proofs.YtmodiemmcdocdaaGreatDoor
open Go.RowKit Go
open PX (tk isT)

theorem parse_ok {s : ByteArray} {l : List UInt8} (hl : s.data.toList = l) (hs : s.size ≤ 1048576) {q : Qy} (hq : PX.parse l = .ok q) (w : World) (hT : Tabs w) :
    Calls Tryz.prog 11 #[.string s] w fun e w' => ∃ am cm ak ck, e = .returned (.tuple #[q.val (.slice am q.mat.length cm) (.slice ak q.fil.kids.length ck), .agg #[.int .i64 0, .int .i64 0]]) ∧ MsAt w' (.slice am q.mat.length cm) q.mat ∧ KsAt w' (.slice ak q.fil.kids.length ck) q.fil ∧ Below w.heap.size w w' := by
  have := parse_own s hs w hT
  rw [hl, hq] at this
  refine this.mono fun e w' ⟨hb, v, he, mv, kv, hv, hm, hk⟩ => ?_
  obtain ⟨am, cm, rfl, _⟩ := id hm
  obtain ⟨ak, ck, rfl⟩ := hk.shape
  exact ⟨am, cm, ak, ck, by rw [he, hv], hm, hk, hb⟩
theorem parse_no {s : ByteArray} {l : List UInt8} (hl : s.data.toList = l) (hs : s.size ≤ 1048576) {p : Nat × Nat} (hq : PX.parse l = .error p) (w : World) (hT : Tabs w) :
    Calls Tryz.prog 11 #[.string s] w fun e w' => e = .returned (.tuple #[zeroQ, .agg #[.int .i64 (p.1 : Nat), .int .i64 (p.2 : Nat)]]) ∧ Below w.heap.size w w' := by
  have := parse_own s hs w hT
  rw [hl, hq] at this
  exact this.mono fun e w' ⟨hb, he⟩ => ⟨he, hb⟩

end Go.Proofs.YtmodiemmcdocdaaGreatDoor
