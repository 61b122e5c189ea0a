/-
  Parse IS WHAT THE DOCUMENT SAYS: the law's walk.
-/
import Derived.Test.YtjghomppmphkoaaGreatDoorRb7
import Derived.Test.YtjghomppmphkoaaGreatDoorCn7
import Derived.Test.YtjghomppmphkoaaGreatDoorSame6
namespace Go.Proofs.YtjghomppmphkoaaGreatDoor
open Go.RowKit Go
open PX (tk isT)

theorem MsAt.below {w w' : World} {v : Value} {l : List Mt} (h : MsAt w v l) (hl : Below w.heap.size w w') : MsAt w' v l := by
  obtain ⟨a, cap, hv, h1, h | ⟨b, off, ha, hlt, hc⟩⟩ := h
  · exact ⟨a, cap, hv, h1, .inl h⟩
  · exact ⟨a, cap, hv, h1, .inr ⟨b, off, ha, Nat.lt_of_lt_of_le hlt hl.size, fun i hi => ⟨(World.cell?_of_block (a := ⟨b, off + i * 3, none⟩) (hl.block b hlt)).trans (hc i hi).1, (World.cell?_of_block (a := ⟨b, off + i * 3 + 1, none⟩) (hl.block b hlt)).trans (hc i hi).2.1, (World.cell?_of_block (a := ⟨b, off + i * 3 + 2, none⟩) (hl.block b hlt)).trans (hc i hi).2.2⟩⟩⟩
theorem QAt.below {w w' : World} {v : Value} {q : Qy} (h : QAt w v q) (hl : Below w.heap.size w w') : QAt w' v q := by
  obtain ⟨mv, fv, hv, hm, hf⟩ := h
  exact ⟨mv, fv, hv, hm.below hl, KsAt.below hl _ _ hf⟩

def zeroQy : Qy := ⟨0, 0, [], .mk 0 ⟨#[]⟩ ⟨#[]⟩ [], false, 0, ⟨#[]⟩⟩
theorem zero_at (w : World) : QAt w (.agg #[.int .i64 0, .int .i64 0, .slice none 0 0, .int .i64 0, .string ⟨#[]⟩, .string ⟨#[]⟩, .slice none 0 0, .bool false, .int .i64 0, .string ⟨#[]⟩]) zeroQy := by
  refine ⟨.slice none 0 0, .slice none 0 0, rfl, ⟨none, 0, rfl, by simp [zeroQy], .inl rfl⟩, ?_⟩
  unfold zeroQy KsAt
  exact ⟨none, 0, rfl, by simp, .inl rfl⟩

theorem parse_count {l : List UInt8} {q : Qy} (h : PX.parse l = .ok q) : q.fil.count ≤ 100000 := by
  unfold PX.parse at h
  rcases hl : LX.lex l with e | ts <;> rw [hl] at h <;> dsimp only at h
  · cases h
  · have := LX.lex_count hl
    exact PX.query_few h (by omega)

set_option maxHeartbeats 8000000 in
set_option maxRecDepth 100000 in
theorem is_walk (s : ByteArray) (w : World) (hT : Tabs w) : Calls Tryz.prog 3 #[.string s] w fun e w' => e = .returned (.bool true) ∧ Below w.heap.size w w' := by
  have HA := Lib.hid (alive_own w hT)
  have HT := Lib.hid hT
  clear hT
  go_enter Tryz.func3, Tryz.ntmps3
  go_wp2_with fail
  refine HA.out.mono ?_
  rintro e w1 ⟨rfl, hb1⟩
  have HB1 := Lib.hid hb1
  clear hb1 HA
  by_cases hs : 2048 < s.size
  · have d0 : decide (2048 < (s.size : Int)) = true := by simp; omega
    go_wp2_with fail
    go_ret
    exact ⟨rfl, HB1.out⟩
  have d0 : decide (2048 < (s.size : Int)) = false := by simp; omega
  have HSS : Hid (s.size ≤ 1048576) := Lib.hid (by omega)
  clear hs
  rcases hp : PX.parse s.data.toList with p | q
  · have HP := Lib.hid (parse_no rfl HSS.out hp w1 (HT.out.next HB1.out))
    have HR := Lib.hid (fun W hW => ref_parse s HSS.out W hW)
    rw [hp] at HR
    clear hp
    go_wp2_with fail
    refine HP.out.mono ?_
    rintro e w2 ⟨rfl, hb2⟩
    simp only [zeroQ]
    have hl3' : Lay w2 ((w2.alloc (.cells #[.int .i64 0, .int .i64 0, .slice none 0 0, .int .i64 0, .string ⟨#[]⟩, .string ⟨#[]⟩, .slice none 0 0, .bool false, .int .i64 0, .string ⟨#[]⟩] 28)).alloc (.cells #[.int .i64 (p.1 : Nat), .int .i64 (p.2 : Nat)] 31)) := ((Keep.refl _ w2).alloc _).alloc _
    have HL3 : Hid True := Lib.hid trivial
    have HB3 := Lib.hid ((HB1.out.trans (hb2.mono HB1.out.size)).trans (hl3'.below.mono (HB1.out.trans (hb2.mono HB1.out.size)).size))
    have HA3 : Hid (CB ((w2.alloc (.cells #[.int .i64 0, .int .i64 0, .slice none 0 0, .int .i64 0, .string ⟨#[]⟩, .string ⟨#[]⟩, .slice none 0 0, .bool false, .int .i64 0, .string ⟨#[]⟩] 28)).alloc (.cells #[.int .i64 (p.1 : Nat), .int .i64 (p.2 : Nat)] 31)) w2.heap.size 28 #[.int .i64 0, .int .i64 0, .slice none 0 0, .int .i64 0, .string ⟨#[]⟩, .string ⟨#[]⟩, .slice none 0 0, .bool false, .int .i64 0, .string ⟨#[]⟩]) := Lib.hid ((CB.new w2 28 _).keep ((Keep.refl (fun _ => False) _).alloc _) (fun h => h))
    have hf3 : CB ((w2.alloc (.cells #[.int .i64 0, .int .i64 0, .slice none 0 0, .int .i64 0, .string ⟨#[]⟩, .string ⟨#[]⟩, .slice none 0 0, .bool false, .int .i64 0, .string ⟨#[]⟩] 28)).alloc (.cells #[.int .i64 (p.1 : Nat), .int .i64 (p.2 : Nat)] 31)) (w2.heap.size + 1) 31 #[.int .i64 (p.1 : Nat), .int .i64 (p.2 : Nat)] := by
      have := CB.new (w2.alloc (.cells #[.int .i64 0, .int .i64 0, .slice none 0 0, .int .i64 0, .string ⟨#[]⟩, .string ⟨#[]⟩, .slice none 0 0, .bool false, .int .i64 0, .string ⟨#[]⟩] 28)) 31 #[.int .i64 (p.1 : Nat), .int .i64 (p.2 : Nat)]
      rw [show (w2.alloc (.cells #[.int .i64 0, .int .i64 0, .slice none 0 0, .int .i64 0, .string ⟨#[]⟩, .string ⟨#[]⟩, .slice none 0 0, .bool false, .int .i64 0, .string ⟨#[]⟩] 28)).heap.size = w2.heap.size + 1 by simp] at this
      exact this
    have HF3 := Lib.hid hf3
    clear hl3' hf3 hb2 HP
    go_wp2_with fail
    revert HL3 HB3 HA3 HF3
    generalize (w2.alloc (.cells #[.int .i64 0, .int .i64 0, .slice none 0 0, .int .i64 0, .string ⟨#[]⟩, .string ⟨#[]⟩, .slice none 0 0, .bool false, .int .i64 0, .string ⟨#[]⟩] 28)).alloc (.cells #[.int .i64 (p.1 : Nat), .int .i64 (p.2 : Nat)] 31) = w3
    generalize w2.heap.size + 1 = B
    generalize hgA : w2.heap.size = A
    intro HL3 HB3 HA3 HF3
    have hAl := HA3.out.lt
    have hBl := HF3.out.lt
    refine (HR.out _ (HT.out.next HB3.out)).mono ?_
    rintro e w4 ⟨hb4, he⟩
    obtain rfl := he
    simp only [zeroQ]
    have hl5 : Lay w4 (w4.alloc (.cells #[.int .i64 0, .int .i64 0, .slice none 0 0, .int .i64 0, .string ⟨#[]⟩, .string ⟨#[]⟩, .slice none 0 0, .bool false, .int .i64 0, .string ⟨#[]⟩] 28)) := (Keep.refl _ w4).alloc _
    have HA5 := Lib.hid ((HA3.out.below hb4 hAl).keep hl5 (fun h => h))
    have HF5 := Lib.hid ((HF3.out.below hb4 hBl).keep hl5 (fun h => h))
    have HB4 := Lib.hid (HB3.out.trans (hb4.mono HB3.out.size))
    have HB5 := Lib.hid (HB4.out.trans (hl5.below.mono HB4.out.size))
    have HC5 : Hid (CB (w4.alloc (.cells #[.int .i64 0, .int .i64 0, .slice none 0 0, .int .i64 0, .string ⟨#[]⟩, .string ⟨#[]⟩, .slice none 0 0, .bool false, .int .i64 0, .string ⟨#[]⟩] 28)) w4.heap.size 28 #[.int .i64 0, .int .i64 0, .slice none 0 0, .int .i64 0, .string ⟨#[]⟩, .string ⟨#[]⟩, .slice none 0 0, .bool false, .int .i64 0, .string ⟨#[]⟩]) := Lib.hid (CB.new w4 28 _)
    go_upto_region 7 with fail
    revert hl5 HA5 HF5 HB5 HC5
    generalize w4.alloc (.cells #[.int .i64 0, .int .i64 0, .slice none 0 0, .int .i64 0, .string ⟨#[]⟩, .string ⟨#[]⟩, .slice none 0 0, .bool false, .int .i64 0, .string ⟨#[]⟩] 28) = w5
    generalize w4.heap.size = C
    intro hl5 HA5 HF5 HB5 HC5
    have HS := Lib.hid (same_any zeroQy zeroQy w5 _ _ (zero_at w5) (zero_at w5) (by simp [zeroQy, Ft.count, Ft.counts]) (by simp [zeroQy, Ft.count, Ft.counts]))
    clear hl5
    have f0 := HF5.out.cell 0
    have f1 := HF5.out.cell 1
    have a0 := HA5.out.cell 0
    have c0 := HC5.out.cell 0
    have a1 := HA5.out.cell 1
    have c1 := HC5.out.cell 1
    have a2 := HA5.out.cell 2
    have c2 := HC5.out.cell 2
    have a3 := HA5.out.cell 3
    have c3 := HC5.out.cell 3
    have a4 := HA5.out.cell 4
    have c4 := HC5.out.cell 4
    have a5 := HA5.out.cell 5
    have c5 := HC5.out.cell 5
    have a6 := HA5.out.cell 6
    have c6 := HC5.out.cell 6
    have a7 := HA5.out.cell 7
    have c7 := HC5.out.cell 7
    have a8 := HA5.out.cell 8
    have c8 := HC5.out.cell 8
    have a9 := HA5.out.cell 9
    have c9 := HC5.out.cell 9
    go_wp2_with fail
    refine HS.out.mono ?_
    rintro e w6 ⟨b, rfl, hb, hl6⟩
    obtain rfl : b = true := by simpa using hb
    have HB6 := Lib.hid (HB5.out.trans (hl6.below.mono HB5.out.size))
    clear hb hl6
    go_wp2_with fail
    go_ret
    exact ⟨rfl, HB6.out⟩
  · have hcn := parse_count hp
    have HP := Lib.hid (parse_ok rfl HSS.out hp w1 (HT.out.next HB1.out))
    have HR := Lib.hid (fun W hW => ref_parse s HSS.out W hW)
    rw [hp] at HR
    have HCN := Lib.hid hcn
    clear hp hcn
    go_wp2_with fail
    refine HP.out.mono ?_
    rintro e w2 ⟨am, cm, ak, ck, rfl, hm, hk, hb2⟩
    simp only [Qy.val]
    have HQ2 : Hid (QAt w2 (.agg #[.int .i64 q.src, .int .i64 q.til, .slice am q.mat.length cm, .int .i64 q.fil.op, .string q.fil.name, .string q.fil.text, .slice ak q.fil.kids.length ck, .bool q.desc, .int .i64 q.lim, .string q.page]) q) := Lib.hid ⟨_, _, rfl, hm, hk⟩
    clear hm hk
    have hl3' : Lay w2 ((w2.alloc (.cells #[.int .i64 q.src, .int .i64 q.til, .slice am q.mat.length cm, .int .i64 q.fil.op, .string q.fil.name, .string q.fil.text, .slice ak q.fil.kids.length ck, .bool q.desc, .int .i64 q.lim, .string q.page] 28)).alloc (.cells #[.int .i64 0, .int .i64 0] 31)) := ((Keep.refl _ w2).alloc _).alloc _
    have HL3 : Hid (Below w2.heap.size w2 ((w2.alloc (.cells #[.int .i64 q.src, .int .i64 q.til, .slice am q.mat.length cm, .int .i64 q.fil.op, .string q.fil.name, .string q.fil.text, .slice ak q.fil.kids.length ck, .bool q.desc, .int .i64 q.lim, .string q.page] 28)).alloc (.cells #[.int .i64 0, .int .i64 0] 31))) := Lib.hid hl3'.below
    have HB3 := Lib.hid ((HB1.out.trans (hb2.mono HB1.out.size)).trans (hl3'.below.mono (HB1.out.trans (hb2.mono HB1.out.size)).size))
    have HA3 : Hid (CB ((w2.alloc (.cells #[.int .i64 q.src, .int .i64 q.til, .slice am q.mat.length cm, .int .i64 q.fil.op, .string q.fil.name, .string q.fil.text, .slice ak q.fil.kids.length ck, .bool q.desc, .int .i64 q.lim, .string q.page] 28)).alloc (.cells #[.int .i64 0, .int .i64 0] 31)) w2.heap.size 28 #[.int .i64 q.src, .int .i64 q.til, .slice am q.mat.length cm, .int .i64 q.fil.op, .string q.fil.name, .string q.fil.text, .slice ak q.fil.kids.length ck, .bool q.desc, .int .i64 q.lim, .string q.page]) := Lib.hid ((CB.new w2 28 _).keep ((Keep.refl (fun _ => False) _).alloc _) (fun h => h))
    have hf3 : CB ((w2.alloc (.cells #[.int .i64 q.src, .int .i64 q.til, .slice am q.mat.length cm, .int .i64 q.fil.op, .string q.fil.name, .string q.fil.text, .slice ak q.fil.kids.length ck, .bool q.desc, .int .i64 q.lim, .string q.page] 28)).alloc (.cells #[.int .i64 0, .int .i64 0] 31)) (w2.heap.size + 1) 31 #[.int .i64 0, .int .i64 0] := by
      have := CB.new (w2.alloc (.cells #[.int .i64 q.src, .int .i64 q.til, .slice am q.mat.length cm, .int .i64 q.fil.op, .string q.fil.name, .string q.fil.text, .slice ak q.fil.kids.length ck, .bool q.desc, .int .i64 q.lim, .string q.page] 28)) 31 #[.int .i64 0, .int .i64 0]
      rw [show (w2.alloc (.cells #[.int .i64 q.src, .int .i64 q.til, .slice am q.mat.length cm, .int .i64 q.fil.op, .string q.fil.name, .string q.fil.text, .slice ak q.fil.kids.length ck, .bool q.desc, .int .i64 q.lim, .string q.page] 28)).heap.size = w2.heap.size + 1 by simp] at this
      exact this
    have HF3 := Lib.hid hf3
    clear hl3' hf3 hb2 HP
    go_wp2_with fail
    revert HL3 HB3 HA3 HF3
    generalize (w2.alloc (.cells #[.int .i64 q.src, .int .i64 q.til, .slice am q.mat.length cm, .int .i64 q.fil.op, .string q.fil.name, .string q.fil.text, .slice ak q.fil.kids.length ck, .bool q.desc, .int .i64 q.lim, .string q.page] 28)).alloc (.cells #[.int .i64 0, .int .i64 0] 31) = w3
    generalize w2.heap.size + 1 = B
    generalize hgA : w2.heap.size = A
    intro HL3 HB3 HA3 HF3
    have hl3 : Below w2.heap.size w2 w3 := by rw [hgA]; exact HL3.out
    have hAl := HA3.out.lt
    have hBl := HF3.out.lt
    refine (HR.out _ (HT.out.next HB3.out)).mono ?_
    rintro e w4 ⟨hb4, v4, rfl, mv, kv, rfl, hm, hk⟩
    obtain ⟨bm, dm, rfl, _⟩ := id hm
    obtain ⟨bk, dk, rfl⟩ := hk.shape
    simp only [Qy.val]
    have HQ3 := Lib.hid (QAt.below HQ2.out hl3)
    have HQ4 := Lib.hid (QAt.below HQ3.out hb4)
    have HQR : Hid (QAt w4 (.agg #[.int .i64 q.src, .int .i64 q.til, .slice bm q.mat.length dm, .int .i64 q.fil.op, .string q.fil.name, .string q.fil.text, .slice bk q.fil.kids.length dk, .bool q.desc, .int .i64 q.lim, .string q.page]) q) := Lib.hid ⟨_, _, rfl, hm, hk⟩
    clear hm hk
    have hl5 : Lay w4 (w4.alloc (.cells #[.int .i64 q.src, .int .i64 q.til, .slice bm q.mat.length dm, .int .i64 q.fil.op, .string q.fil.name, .string q.fil.text, .slice bk q.fil.kids.length dk, .bool q.desc, .int .i64 q.lim, .string q.page] 28)) := (Keep.refl _ w4).alloc _
    have HA5 := Lib.hid ((HA3.out.below hb4 hAl).keep hl5 (fun h => h))
    have HF5 := Lib.hid ((HF3.out.below hb4 hBl).keep hl5 (fun h => h))
    have HB4 := Lib.hid (HB3.out.trans (hb4.mono HB3.out.size))
    have HB5 := Lib.hid (HB4.out.trans (hl5.below.mono HB4.out.size))
    have HC5 : Hid (CB (w4.alloc (.cells #[.int .i64 q.src, .int .i64 q.til, .slice bm q.mat.length dm, .int .i64 q.fil.op, .string q.fil.name, .string q.fil.text, .slice bk q.fil.kids.length dk, .bool q.desc, .int .i64 q.lim, .string q.page] 28)) w4.heap.size 28 #[.int .i64 q.src, .int .i64 q.til, .slice bm q.mat.length dm, .int .i64 q.fil.op, .string q.fil.name, .string q.fil.text, .slice bk q.fil.kids.length dk, .bool q.desc, .int .i64 q.lim, .string q.page]) := Lib.hid (CB.new w4 28 _)
    go_upto_region 7 with fail
    revert hl5 HA5 HF5 HB5 HC5
    generalize w4.alloc (.cells #[.int .i64 q.src, .int .i64 q.til, .slice bm q.mat.length dm, .int .i64 q.fil.op, .string q.fil.name, .string q.fil.text, .slice bk q.fil.kids.length dk, .bool q.desc, .int .i64 q.lim, .string q.page] 28) = w5
    generalize w4.heap.size = C
    intro hl5 HA5 HF5 HB5 HC5
    have HS := Lib.hid (same_any q q w5 _ _ (QAt.lay HQR.out hl5) (QAt.lay HQ4.out hl5) HCN.out HCN.out)
    clear hl5
    have f0 := HF5.out.cell 0
    have f1 := HF5.out.cell 1
    have a0 := HA5.out.cell 0
    have c0 := HC5.out.cell 0
    have a1 := HA5.out.cell 1
    have c1 := HC5.out.cell 1
    have a2 := HA5.out.cell 2
    have c2 := HC5.out.cell 2
    have a3 := HA5.out.cell 3
    have c3 := HC5.out.cell 3
    have a4 := HA5.out.cell 4
    have c4 := HC5.out.cell 4
    have a5 := HA5.out.cell 5
    have c5 := HC5.out.cell 5
    have a6 := HA5.out.cell 6
    have c6 := HC5.out.cell 6
    have a7 := HA5.out.cell 7
    have c7 := HC5.out.cell 7
    have a8 := HA5.out.cell 8
    have c8 := HC5.out.cell 8
    have a9 := HA5.out.cell 9
    have c9 := HC5.out.cell 9
    go_wp2_with fail
    refine HS.out.mono ?_
    rintro e w6 ⟨b, rfl, hb, hl6⟩
    obtain rfl : b = true := by simpa using hb
    have HB6 := Lib.hid (HB5.out.trans (hl6.below.mono HB5.out.size))
    clear hb hl6
    go_wp2_with fail
    go_ret
    exact ⟨rfl, HB6.out⟩
end Go.Proofs.YtjghomppmphkoaaGreatDoor
