/-
  magpielaw02.SumBack: the walk.
-/
import Derived.Test.YtacekhjmfjcppaaAlive
import Derived.Test.YtacekhjmfjcppaaRead
import Derived.Test.YtacekhjmfjcppaaRef
namespace Go.Proofs.Ytacekhjmfjcppaa
open Go.RowKit Go

theorem empty_same (s : ByteArray) : (leftOf s true).isEmpty = s.toList.isEmpty := by
  rw [Lib.toList_data]
  rfl

set_option maxHeartbeats 4000000 in
theorem back_walk (s : ByteArray) (w : World) :
    Calls Try.prog 4 #[.string s] w fun e w' => e = .returned (.bool true) ∧ Below w.heap.size w w' := by
  by_cases hla : 4096 < s.size
  · go_enter Try.func4, Try.ntmps4
    go_wp2_with fail
    refine (alive_any w).mono ?_
    rintro e w1 ⟨rfl, hb1⟩
    go_wp2
    go_ret
    exact ⟨rfl, hb1⟩
  have hsl : s.data.toList.length = s.size := (Lib.size_eq s).symm
  obtain ⟨p, hp⟩ := text_of (M.shut s.data.toList)
  have hps : p.size = s.size + 4 := by rw [Lib.size_eq, hp, M.shut_length, hsl]
  have HP := Lib.hid hp
  have HPS := Lib.hid hps
  have HSL := Lib.hid hsl
  clear hp hps hsl
  go_enter Try.func4, Try.ntmps4
  go_wp2_with fail
  refine (alive_any w).mono ?_
  rintro e w1 ⟨rfl, hb1⟩
  obtain ⟨v0, w2, hc0, hs0, hb2⟩ := bytes_bs w1 s (by omega)
  have HS0 := Lib.hid hs0
  have HB2 := Lib.hid (hb1.trans (hb2.mono hb1.size))
  have HS1 := Lib.hid hb1.size
  clear hs0 hb1 hb2
  go_wp2_with fail
  refine (shut_any (From w.heap.size) v0 _ w2 (HS0.out.mono (fun k hk => by have := HS1.out; simp only [From]; omega)) (fun k hk => by have := HB2.out.size; simp only [From]; omega) (by rw [HSL.out]; omega)).mono ?_
  rintro e w3 ⟨v1, rfl, hs1, hk3⟩
  have HB3 := Lib.hid (HB2.out.trans (hk3.from HB2.out.size))
  have hc1 := bs_string_of hs1 p HP.out
  clear hs1 hk3 hc0 HS0
  go_wp2_with fail
  refine (open_any p (by rw [HPS.out]; omega) w3).mono ?_
  rintro e w4 ⟨⟨t, b, rfl, hor⟩, hb4⟩
  obtain ⟨ht, rfl⟩ := hor.back HP.out
  obtain rfl : t = s := bytes_ext ht
  have HB4 := Lib.hid (HB3.out.trans (hb4.mono HB3.out.size))
  clear hor hb4 ht hc1
  go_wp2_with fail
  refine (reader_any p (by rw [HPS.out]; omega) w4).mono ?_
  rintro e w5 ⟨g, t2, b2, rfl, hor2, hr5, hg, hb5⟩
  obtain ⟨ht2, rfl⟩ := hor2.back HP.out
  obtain rfl : t2 = t := bytes_ext ht2
  have HB5 := Lib.hid (HB4.out.trans (hb5.mono HB4.out.size))
  have hlt5 := hr5.lt
  have HR5 := Lib.hid hr5
  clear hor2 ht2 hb5 hr5 hg
  go_wp2_with fail
  refine (reader_any t2 (by omega) w5).mono ?_
  rintro e w6 ⟨q, t3, b3, rfl, hor3, hr6, hg6, hb6⟩
  have HQ6 := Lib.hid hr6
  have HR6 := Lib.hid (HR5.out.below hb6 hlt5)
  have HB6 := Lib.hid (HB5.out.trans (hb6.mono HB5.out.size))
  have HOR := Lib.hid hor3
  have hlt6 := hb6.size
  have hql := hr6.lt
  clear hor3 hr6 hb6 hg6 HR5
  go_wp2_with fail
  refine (refOpen_any t2 (by omega) w6).mono ?_
  rintro e w7 ⟨⟨t4, b4, rfl, hor4⟩, hb7⟩
  obtain ⟨rfl, rfl⟩ := HOR.out.det hor4
  have hr7 := HR6.out.below hb7 (by omega)
  have hq7 := HQ6.out.below hb7 hql
  have HB7 := Lib.hid (HB6.out.trans (hb7.mono HB6.out.size))
  clear hor4 hb7
  have hes := empty_same t2
  go_wp2_with fail
  refine (bad_any g _ _ w7 hr7).mono ?_
  rintro e w' ⟨rfl, rfl⟩
  go_wp2_with fail
  refine (end_any g _ _ w7 hr7).mono ?_
  rintro e w' ⟨rfl, rfl⟩
  go_wp2_with fail
  refine (bad_any q _ _ w7 hq7).mono ?_
  rintro e w' ⟨rfl, rfl⟩
  go_wp2_with fail
  go_ret
  exact ⟨rfl, HB7.out⟩

end Go.Proofs.Ytacekhjmfjcppaa
