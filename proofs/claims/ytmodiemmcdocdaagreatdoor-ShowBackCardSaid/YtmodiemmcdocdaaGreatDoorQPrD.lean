/-
  PACKAGE parse: query.
  errors.As AT THE TARGET *parse.wrong.
  errors.As OF A FAULT.
-/
import Derived.Test.YtmodiemmcdocdaaGreatDoorQPrC
import Derived.Test.YtmodiemmcdocdaaGreatDoorQFlA
import Derived.LoopN
import Derived.Test.YtmodiemmcdocdaaGreatDoorQPrA
import Derived.LaidEql
import Derived.Stop.Asserts
import Derived.RowKitTokens
namespace Go.Proofs.YtmodiemmcdocdaaGreatDoor
open Go.RowKit Go
open PX (tk isT)

/-- The page's text. -/
def pageB (ts : List LX.Tok) (i : Nat) : PX.PR ByteArray :=
  if isT (tk ts i) PX.wPage = true then (match PX.token ts 4 (i + 1) with
    | .error e => (.error e : PX.PR ByteArray)
    | .ok (p, j) => .ok (PX.bs p.says, j)) else .ok (⟨#[]⟩, i)
theorem pageX_is (ts : List LX.Tok) (a : Value → Array Value) (i : Nat) : pageX ts (.string ⟨#[]⟩) a i = match pageB ts i with | .error e => .error e | .ok (p, j) => .ok (a (.string p), j) := by
  unfold pageX pageB
  by_cases h : isT (tk ts i) PX.wPage = true
  · rw [if_pos h, if_pos h]
    rcases PX.token ts 4 (i + 1) with e | ⟨t, j⟩ <;> rfl
  · rw [if_neg h, if_neg h]

/-- Behind desc. -/
def descI (ts : List LX.Tok) (i : Nat) : Nat := if isT (tk ts i) PX.wDesc = true then i + 1 else i

/-- A query, part by part. -/
def queryX (ts : List LX.Tok) : Except (Nat × Nat) Qy :=
  match timesX ts 0 with
  | .error e => .error e
  | .ok ((f, t), i1) => match PX.wheres ts ts.length 0 i1 with
    | .error e => .error e
    | .ok (ms, i2) => match findX ts i2 with
      | .error e => .error e
      | .ok (x, i3) => match numX ts PX.wLimit 1 50 (descI ts i3) with
        | .error e => .error e
        | .ok ((_, n), i5) => match pageB ts i5 with
          | .error e => .error e
          | .ok (p, i6) => if (tk ts i6).kind = 0 then .ok ⟨f, t, ms, x, isT (tk ts i3) PX.wDesc, n, p⟩ else .error (5, (tk ts i6).place)

theorem queryX_is (ts : List LX.Tok) : PX.query ts = queryX ts := by
  unfold PX.query queryX timesX numX descI pageB
  have hwi : ∀ s i u j, PX.want ts s i = .ok (u, j) → j = i + 1 := fun s i u j h => by
    unfold PX.want at h
    split at h
    · cases h; rfl
    · cases h
  rcases h1 : PX.want ts PX.wFrom 0 with e | ⟨_, i1⟩
  · rfl
  dsimp only
  rcases h2 : PX.number ts (-1099511627776) 1099511627776 i1 with e | ⟨f, i2⟩
  · rfl
  dsimp only
  rcases h3 : PX.want ts PX.wTo i2 with e | ⟨_, i3⟩
  · rfl
  dsimp only
  rcases h4 : PX.number ts (-1099511627776) 1099511627776 i3 with e | ⟨t, i4⟩
  · rfl
  dsimp only
  by_cases ht : t < f
  · rw [if_pos ht, if_pos ht]
  rw [if_neg ht, if_neg ht]
  dsimp only
  rcases h5 : PX.wheres ts ts.length 0 i4 with e | ⟨ms, i5⟩
  · rfl
  dsimp only
  unfold findX
  rcases h6 : (if isT (tk ts i5) PX.wFind = true then PX.orF ts (PX.atom ts 8) (i5 + 1) else .ok (.mk 1 ⟨#[]⟩ ⟨#[]⟩ [], i5) : PX.PR Ft) with e | ⟨x, i6⟩
  · rfl
  dsimp only
  by_cases hd : isT (tk ts i6) PX.wDesc = true
  · rw [if_pos hd, if_pos hd, hd]
    dsimp only
    rcases h7 : PX.want ts PX.wLimit (i6 + 1) with e | ⟨_, i8⟩
    · rfl
    dsimp only
    rcases h8 : PX.number ts 1 50 i8 with e | ⟨n, i9⟩ <;> rfl
  · have hd' : isT (tk ts i6) PX.wDesc = false := by simpa using hd
    rw [if_neg hd, if_neg hd, hd']
    dsimp only
    rcases h7 : PX.want ts PX.wLimit i6 with e | ⟨_, i8⟩
    · rfl
    dsimp only
    rcases h8 : PX.number ts 1 50 i8 with e | ⟨n, i9⟩ <;> rfl

/-- No query. -/
def zeroQ : Value := .agg #[.int .i64 0, .int .i64 0, .slice none 0 0, .int .i64 0, .string ⟨#[]⟩, .string ⟨#[]⟩, .slice none 0 0, .bool false, .int .i64 0, .string ⟨#[]⟩]

/-- What query answers. -/
def QueryR (P : Nat) (r : Except (Nat × Nat) Qy) (w : World) (e : Ending) (w' : World) : Prop :=
  Keep (fun k => k = P) w w' ∧ match r with
    | .error p => e = .returned (.tuple #[zeroQ, errV p])
    | .ok q => ∃ mv kv, e = .returned (.tuple #[q.val mv kv, .nilIface]) ∧ Rk 3 (fun b => w.heap.size ≤ b) w' mv q.mat.length (flatM q.mat) ∧ q.mat.length ≤ 1000 ∧ KsB (fun b => w.heap.size ≤ b) w' kv q.fil

/-- A query that was stored there. -/
def stored10 (W : World) (k : Nat) (u0 u1 u2 u3 u4 u5 u6 u7 u8 u9 : Value) : World :=
  (((((((((W.setCell ⟨k, 0, none⟩ u0).setCell ⟨k, 1, none⟩ u1).setCell ⟨k, 2, none⟩ u2).setCell ⟨k, 3, none⟩ u3).setCell ⟨k, 4, none⟩ u4).setCell ⟨k, 5, none⟩ u5).setCell ⟨k, 6, none⟩ u6).setCell ⟨k, 7, none⟩ u7).setCell ⟨k, 8, none⟩ u8).setCell ⟨k, 9, none⟩ u9
theorem keep_stored10 {G : Nat → Prop} {a W : World} (h : Keep G a W) {k : Nat} (hk : a.heap.size ≤ k ∨ G k) (u0 u1 u2 u3 u4 u5 u6 u7 u8 u9 : Value) : Keep G a (stored10 W k u0 u1 u2 u3 u4 u5 u6 u7 u8 u9) :=
  (((((((((h.setCell (p := ⟨k, 0, none⟩) hk u0).setCell (p := ⟨k, 1, none⟩) hk u1).setCell (p := ⟨k, 2, none⟩) hk u2).setCell (p := ⟨k, 3, none⟩) hk u3).setCell (p := ⟨k, 4, none⟩) hk u4).setCell (p := ⟨k, 5, none⟩) hk u5).setCell (p := ⟨k, 6, none⟩) hk u6).setCell (p := ⟨k, 7, none⟩) hk u7).setCell (p := ⟨k, 8, none⟩) hk u8).setCell (p := ⟨k, 9, none⟩) hk u9
theorem CB.all10 {W : World} {B : Nat} {t : TypeId} {u0 u1 u2 u3 u4 u5 u6 u7 u8 u9 : Value} (h : CB W B t #[u0, u1, u2, u3, u4, u5, u6, u7, u8, u9]) (v0 v1 v2 v3 v4 v5 v6 v7 v8 v9 : Value) : CB (stored10 W B v0 v1 v2 v3 v4 v5 v6 v7 v8 v9) B t #[v0, v1, v2, v3, v4, v5, v6, v7, v8, v9] := by
  have h0 : CB _ B t #[v0, u1, u2, u3, u4, u5, u6, u7, u8, u9] := h.set 0 v0
  have h1 : CB _ B t #[v0, v1, u2, u3, u4, u5, u6, u7, u8, u9] := h0.set 1 v1
  have h2 : CB _ B t #[v0, v1, v2, u3, u4, u5, u6, u7, u8, u9] := h1.set 2 v2
  have h3 : CB _ B t #[v0, v1, v2, v3, u4, u5, u6, u7, u8, u9] := h2.set 3 v3
  have h4 : CB _ B t #[v0, v1, v2, v3, v4, u5, u6, u7, u8, u9] := h3.set 4 v4
  have h5 : CB _ B t #[v0, v1, v2, v3, v4, v5, u6, u7, u8, u9] := h4.set 5 v5
  have h6 : CB _ B t #[v0, v1, v2, v3, v4, v5, v6, u7, u8, u9] := h5.set 6 v6
  have h7 : CB _ B t #[v0, v1, v2, v3, v4, v5, v6, v7, u8, u9] := h6.set 7 v7
  have h8 : CB _ B t #[v0, v1, v2, v3, v4, v5, v6, v7, v8, u9] := h7.set 8 v8
  have h9 : CB _ B t #[v0, v1, v2, v3, v4, v5, v6, v7, v8, v9] := h8.set 9 v9
  exact h9

theorem wheres_le {ts : List LX.Tok} : ∀ (f n i : Nat) {ms : List Mt} {j : Nat}, n ≤ 4 → PX.wheres ts f n i = .ok (ms, j) → ms.length + n ≤ 4
  | 0, n, i, ms, j, hn, h => by
    cases h
    simpa using hn
  | f + 1, n, i, ms, j, hn, h => by
    rw [SX.wheres_wh] at h
    split at h
    · split at h
      · cases h
      · split at h
        · cases h
        · rename_i m q _
          split at h
          · cases h
          · rename_i l r h2
            cases h
            have := wheres_le f (n + 1) q (by omega) h2
            rw [List.length_cons]
            omega
    · cases h
      simpa using hn
theorem wheres_few {ts : List LX.Tok} {f i : Nat} {ms : List Mt} {j : Nat} (h : PX.wheres ts f 0 i = .ok (ms, j)) : ms.length ≤ 1000 := by
  have := wheres_le f 0 i (by omega) h
  omega

theorem QueryR.bad {P : Nat} {r : Except (Nat × Nat) Qy} {p : Nat × Nat} {w W : World} (hr : r = .error p) (hk : Keep (PQ P (w.heap.size + 1)) w W) :
    QueryR P r w (.returned (.tuple #[zeroQ, errV p])) (stored10 W w.heap.size (.int .i64 0) (.int .i64 0) (.slice none 0 0) (.int .i64 0) (.string ⟨#[]⟩) (.string ⟨#[]⟩) (.slice none 0 0) (.bool false) (.int .i64 0) (.string ⟨#[]⟩)) := by
  subst hr
  exact ⟨(keep_stored10 hk (.inl (Nat.le_refl _)) _ _ _ _ _ _ _ _ _ _).into fun k hk h => h.elim id fun h => by omega, rfl⟩

set_option maxHeartbeats 8000000 in
set_option maxRecDepth 100000 in
theorem query_own (P g c : Nat) (ts : List LX.Tok) (w : World) (h : PQS P g c ts 0 0 w) (he : PX.Ended ts) (hfew : ts.length ≤ 1100) :
    Calls Tryz.prog 23 #[.pointer (some ⟨P, 0, none⟩)] w (QueryR P (queryX ts) w) := by
  have hmf : ∀ (fn : Fn) (first cap : Array Value) (w : World), (Instr.makeFunc fn first cap).run Tryz.prog w = .ok (.func fn first cap) w := fun _ _ _ _ => rfl
  obtain ⟨w0, hW⟩ : ∃ w0, w0 = ((w.alloc (.cells #[.int .i64 0, .int .i64 0, .slice none 0 0, .int .i64 0, .string ⟨#[]⟩, .string ⟨#[]⟩, .slice none 0 0, .bool false, .int .i64 0, .string ⟨#[]⟩] 28)).alloc (.cells #[.int .i64 0, .int .i64 0, .slice none 0 0, .int .i64 0, .string ⟨#[]⟩, .string ⟨#[]⟩, .slice none 0 0, .bool false, .int .i64 0, .string ⟨#[]⟩] 28)).alloc (.cells #[.func (.func 49) #[.pointer (some ⟨P, 0, none⟩)] #[], .func (.func 50) #[.pointer (some ⟨P, 0, none⟩)] #[], .func (.func 51) #[.pointer (some ⟨P, 0, none⟩)] #[], .func (.func 52) #[.pointer (some ⟨P, 0, none⟩)] #[], .func (.func 53) #[.pointer (some ⟨P, 0, none⟩)] #[], .func (.func 54) #[.pointer (some ⟨P, 0, none⟩)] #[], .func (.func 55) #[.pointer (some ⟨P, 0, none⟩)] #[]] 97) := ⟨_, rfl⟩
  have hlw : Lay w w0 := by rw [hW]; exact (((Keep.refl _ w).alloc _).alloc _).alloc _
  have hsz : w0.heap.size = w.heap.size + 1 + 1 + 1 := by rw [hW]; simp
  have hr0 : CB w0 w.heap.size 28 #[.int .i64 0, .int .i64 0, .slice none 0 0, .int .i64 0, .string ⟨#[]⟩, .string ⟨#[]⟩, .slice none 0 0, .bool false, .int .i64 0, .string ⟨#[]⟩] := by
    rw [hW]
    exact ((CB.new w 28 _).keep (((Keep.refl (fun _ => False) _).alloc _).alloc _) (fun h => h))
  have hc0 : CB w0 (w.heap.size + 1) 28 #[.int .i64 0, .int .i64 0, .slice none 0 0, .int .i64 0, .string ⟨#[]⟩, .string ⟨#[]⟩, .slice none 0 0, .bool false, .int .i64 0, .string ⟨#[]⟩] := by
    rw [hW]
    have := (CB.new (w.alloc (.cells #[.int .i64 0, .int .i64 0, .slice none 0 0, .int .i64 0, .string ⟨#[]⟩, .string ⟨#[]⟩, .slice none 0 0, .bool false, .int .i64 0, .string ⟨#[]⟩] 28)) 28 #[.int .i64 0, .int .i64 0, .slice none 0 0, .int .i64 0, .string ⟨#[]⟩, .string ⟨#[]⟩, .slice none 0 0, .bool false, .int .i64 0, .string ⟨#[]⟩]).keep ((Keep.refl (fun _ => False) _).alloc (.cells #[.func (.func 49) #[.pointer (some ⟨P, 0, none⟩)] #[], .func (.func 50) #[.pointer (some ⟨P, 0, none⟩)] #[], .func (.func 51) #[.pointer (some ⟨P, 0, none⟩)] #[], .func (.func 52) #[.pointer (some ⟨P, 0, none⟩)] #[], .func (.func 53) #[.pointer (some ⟨P, 0, none⟩)] #[], .func (.func 54) #[.pointer (some ⟨P, 0, none⟩)] #[], .func (.func 55) #[.pointer (some ⟨P, 0, none⟩)] #[]] 97)) (fun h => h)
    rw [show (w.alloc (.cells #[.int .i64 0, .int .i64 0, .slice none 0 0, .int .i64 0, .string ⟨#[]⟩, .string ⟨#[]⟩, .slice none 0 0, .bool false, .int .i64 0, .string ⟨#[]⟩] 28)).heap.size = w.heap.size + 1 by simp] at this
    exact this
  have hb0 : CB w0 (w.heap.size + 1 + 1) 97 #[.func (.func 49) #[.pointer (some ⟨P, 0, none⟩)] #[], .func (.func 50) #[.pointer (some ⟨P, 0, none⟩)] #[], .func (.func 51) #[.pointer (some ⟨P, 0, none⟩)] #[], .func (.func 52) #[.pointer (some ⟨P, 0, none⟩)] #[], .func (.func 53) #[.pointer (some ⟨P, 0, none⟩)] #[], .func (.func 54) #[.pointer (some ⟨P, 0, none⟩)] #[], .func (.func 55) #[.pointer (some ⟨P, 0, none⟩)] #[]] := by
    rw [hW]
    have := CB.new ((w.alloc (.cells #[.int .i64 0, .int .i64 0, .slice none 0 0, .int .i64 0, .string ⟨#[]⟩, .string ⟨#[]⟩, .slice none 0 0, .bool false, .int .i64 0, .string ⟨#[]⟩] 28)).alloc (.cells #[.int .i64 0, .int .i64 0, .slice none 0 0, .int .i64 0, .string ⟨#[]⟩, .string ⟨#[]⟩, .slice none 0 0, .bool false, .int .i64 0, .string ⟨#[]⟩] 28)) 97 #[.func (.func 49) #[.pointer (some ⟨P, 0, none⟩)] #[], .func (.func 50) #[.pointer (some ⟨P, 0, none⟩)] #[], .func (.func 51) #[.pointer (some ⟨P, 0, none⟩)] #[], .func (.func 52) #[.pointer (some ⟨P, 0, none⟩)] #[], .func (.func 53) #[.pointer (some ⟨P, 0, none⟩)] #[], .func (.func 54) #[.pointer (some ⟨P, 0, none⟩)] #[], .func (.func 55) #[.pointer (some ⟨P, 0, none⟩)] #[]]
    rw [show ((w.alloc (.cells #[.int .i64 0, .int .i64 0, .slice none 0 0, .int .i64 0, .string ⟨#[]⟩, .string ⟨#[]⟩, .slice none 0 0, .bool false, .int .i64 0, .string ⟨#[]⟩] 28)).alloc (.cells #[.int .i64 0, .int .i64 0, .slice none 0 0, .int .i64 0, .string ⟨#[]⟩, .string ⟨#[]⟩, .slice none 0 0, .bool false, .int .i64 0, .string ⟨#[]⟩] 28)).heap.size = w.heap.size + 1 + 1 by simp] at this
    exact this
  have HW := Lib.hid hW.symm
  clear hW
  have hPl := h.cb.lt
  have hgl := h.gl
  have HE := Lib.hid he
  have HFEW := Lib.hid hfew
  have HQ0 := Lib.hid (h.lay hlw)
  have HK0 := Lib.hid (Lay.keep (G := PQ P (w.heap.size + 1)) hlw)
  have HZ0 : Hid (w.heap.size + 1 + 1 + 1 ≤ w0.heap.size) := Lib.hid (Nat.le_of_eq hsz.symm)
  have HR0 := Lib.hid hr0
  have HC0 := Lib.hid hc0
  have HB0 := Lib.hid hb0
  clear h he hfew hlw hr0 hc0 hb0 hsz
  have HX := Lib.hid (queryX.eq_1 ts)
  go_enter Tryz.func23, Tryz.ntmps23
  go_wp2_with fail
  refine wp_loop_rounds 8 ?_
  rw [rounds_succ]
  go_wp2_with fail
  rw [HW.out]
  refine (times_own P g c ts 0 (w.heap.size + 1) (.int .i64 0) (.int .i64 0) (.slice none 0 0) (.int .i64 0) (.string ⟨#[]⟩) (.string ⟨#[]⟩) (.slice none 0 0) (.bool false) (.int .i64 0) (.string ⟨#[]⟩) w0 HQ0.out HE.out HC0.out (by omega) (by omega)).mono ?_
  rintro e w1 ⟨hk, ho⟩
  have HR1 := Lib.hid (HR0.out.keep hk (by omega))
  have HB1 := Lib.hid (HB0.out.keep hk (by omega))
  have HK1 := Lib.hid (HK0.out.trans hk)
  have HZ1 := Lib.hid (Nat.le_trans HZ0.out hk.size)
  clear hk
  revert ho
  rcases hr1 : timesX ts 0 with p | ⟨⟨f, t⟩, i1⟩
  · have HF : Hid (queryX ts = .error p) := Lib.hid (by rw [HX.out, hr1])
    clear hr1
    rintro rfl
    unfold errV
    have r0 := HR1.out.cell 0
    have f0 := HR1.out.frozen 0
    have r1 := HR1.out.cell 1
    have f1 := HR1.out.frozen 1
    have r2 := HR1.out.cell 2
    have f2 := HR1.out.frozen 2
    have r3 := HR1.out.cell 3
    have f3 := HR1.out.frozen 3
    have r4 := HR1.out.cell 4
    have f4 := HR1.out.frozen 4
    have r5 := HR1.out.cell 5
    have f5 := HR1.out.frozen 5
    have r6 := HR1.out.cell 6
    have f6 := HR1.out.frozen 6
    have r7 := HR1.out.cell 7
    have f7 := HR1.out.frozen 7
    have r8 := HR1.out.cell 8
    have f8 := HR1.out.frozen 8
    have r9 := HR1.out.cell 9
    have f9 := HR1.out.frozen 9
    go_wp2_with fail
    have hq := CB.all10 HR1.out (.int .i64 0) (.int .i64 0) (.slice none 0 0) (.int .i64 0) (.string ⟨#[]⟩) (.string ⟨#[]⟩) (.slice none 0 0) (.bool false) (.int .i64 0) (.string ⟨#[]⟩)
    have q0 := hq.cell 0
    have q1 := hq.cell 1
    have q2 := hq.cell 2
    have q3 := hq.cell 3
    have q4 := hq.cell 4
    have q5 := hq.cell 5
    have q6 := hq.cell 6
    have q7 := hq.cell 7
    have q8 := hq.cell 8
    have q9 := hq.cell 9
    unfold Go.Proofs.YtmodiemmcdocdaaGreatDoor.stored10 at q0 q1 q2 q3 q4 q5 q6 q7 q8 q9
    refine bodyPost_ret (v := .tuple #[zeroQ, errV p]) (by simp [results, Tryz.results23, go_sem, zeroQ, errV, q0, q1, q2, q3, q4, q5, q6, q7, q8, q9]) rfl ?_
    exact QueryR.bad HF.out HK1.out
  have HX1 := Lib.hid (HX.out.trans (by rw [hr1]))
  clear HX hr1
  rintro ⟨rfl, hq, hc⟩
  have HQ1 := Lib.hid hq
  have HC1 := Lib.hid hc
  clear hq hc HQ0 HC0 HR0 HB0 HK0
  have b1 := HB1.out.cell 1
  go_wp2_with fail
  rw [rounds_succ]
  go_wp2_with fail
  clear b1
  refine (matchers_own P g c ts i1 (w.heap.size + 1) (.int .i64 f) (.int .i64 t) (.int .i64 0) (.string ⟨#[]⟩) (.string ⟨#[]⟩) (.slice none 0 0) (.bool false) (.int .i64 0) (.string ⟨#[]⟩) w1 HQ1.out HE.out HFEW.out HC1.out (by omega) (by omega)).mono ?_
  rintro e w2 ⟨hk, ho⟩
  have HR2 := Lib.hid (HR1.out.keep hk (by omega))
  have HB2 := Lib.hid (HB1.out.keep hk (by omega))
  have HK2 := Lib.hid (HK1.out.trans hk)
  have HZ2 := Lib.hid (Nat.le_trans HZ1.out hk.size)
  clear hk
  revert ho
  rcases hr2 : PX.wheres ts ts.length 0 i1 with p | ⟨ms, i2⟩
  · have HF : Hid (queryX ts = .error p) := Lib.hid (by rw [HX1.out, hr2])
    clear hr2
    rintro rfl
    unfold errV
    have r0 := HR2.out.cell 0
    have f0 := HR2.out.frozen 0
    have r1 := HR2.out.cell 1
    have f1 := HR2.out.frozen 1
    have r2 := HR2.out.cell 2
    have f2 := HR2.out.frozen 2
    have r3 := HR2.out.cell 3
    have f3 := HR2.out.frozen 3
    have r4 := HR2.out.cell 4
    have f4 := HR2.out.frozen 4
    have r5 := HR2.out.cell 5
    have f5 := HR2.out.frozen 5
    have r6 := HR2.out.cell 6
    have f6 := HR2.out.frozen 6
    have r7 := HR2.out.cell 7
    have f7 := HR2.out.frozen 7
    have r8 := HR2.out.cell 8
    have f8 := HR2.out.frozen 8
    have r9 := HR2.out.cell 9
    have f9 := HR2.out.frozen 9
    go_wp2_with fail
    have hq := CB.all10 HR2.out (.int .i64 0) (.int .i64 0) (.slice none 0 0) (.int .i64 0) (.string ⟨#[]⟩) (.string ⟨#[]⟩) (.slice none 0 0) (.bool false) (.int .i64 0) (.string ⟨#[]⟩)
    have q0 := hq.cell 0
    have q1 := hq.cell 1
    have q2 := hq.cell 2
    have q3 := hq.cell 3
    have q4 := hq.cell 4
    have q5 := hq.cell 5
    have q6 := hq.cell 6
    have q7 := hq.cell 7
    have q8 := hq.cell 8
    have q9 := hq.cell 9
    unfold Go.Proofs.YtmodiemmcdocdaaGreatDoor.stored10 at q0 q1 q2 q3 q4 q5 q6 q7 q8 q9
    refine bodyPost_ret (v := .tuple #[zeroQ, errV p]) (by simp [results, Tryz.results23, go_sem, zeroQ, errV, q0, q1, q2, q3, q4, q5, q6, q7, q8, q9]) rfl ?_
    exact QueryR.bad HF.out HK2.out
  have HM : Hid (ms.length ≤ 1000) := Lib.hid (wheres_few hr2)
  have HX2 := Lib.hid (HX1.out.trans (by rw [hr2]))
  clear HX1 hr2
  rintro ⟨rfl, hq, mv, hc, hrk⟩
  obtain ⟨am, cm, rfl⟩ := hrk.shape
  have HQ2 := Lib.hid hq
  have HC2 := Lib.hid hc
  have HM2 := Lib.hid (hrk.mono (G' := fun b => w.heap.size + 1 + 1 + 1 ≤ b) (fun b hb _ => Nat.le_trans HZ1.out hb))
  clear hq hc hrk HQ1 HC1 HR1 HB1 HK1
  have b1 := HB2.out.cell 2
  go_wp2_with fail
  rw [rounds_succ]
  go_wp2_with fail
  clear b1
  refine (find_own P g c ts i2 (w.heap.size + 1) (.int .i64 f) (.int .i64 t) (.slice am ms.length cm) (.bool false) (.int .i64 0) (.string ⟨#[]⟩) w2 HQ2.out HE.out HFEW.out HC2.out (by omega) (by omega)).mono ?_
  rintro e w3 ⟨hk, ho⟩
  have HR3 := Lib.hid (HR2.out.keep hk (by omega))
  have HB3 := Lib.hid (HB2.out.keep hk (by omega))
  have HK3 := Lib.hid (HK2.out.trans hk)
  have HZ3 := Lib.hid (Nat.le_trans HZ2.out hk.size)
  have HM3 := Lib.hid (HM2.out.keep hk (fun b hb _ _ h => by have : w.heap.size + 1 + 1 + 1 ≤ b := hb; rcases h with h | h <;> omega))
  clear hk
  revert ho
  rcases hr3 : findX ts i2 with p | ⟨x, i3⟩
  · have HF : Hid (queryX ts = .error p) := Lib.hid (by rw [HX2.out, hr3])
    clear hr3
    rintro rfl
    unfold errV
    have r0 := HR3.out.cell 0
    have f0 := HR3.out.frozen 0
    have r1 := HR3.out.cell 1
    have f1 := HR3.out.frozen 1
    have r2 := HR3.out.cell 2
    have f2 := HR3.out.frozen 2
    have r3 := HR3.out.cell 3
    have f3 := HR3.out.frozen 3
    have r4 := HR3.out.cell 4
    have f4 := HR3.out.frozen 4
    have r5 := HR3.out.cell 5
    have f5 := HR3.out.frozen 5
    have r6 := HR3.out.cell 6
    have f6 := HR3.out.frozen 6
    have r7 := HR3.out.cell 7
    have f7 := HR3.out.frozen 7
    have r8 := HR3.out.cell 8
    have f8 := HR3.out.frozen 8
    have r9 := HR3.out.cell 9
    have f9 := HR3.out.frozen 9
    go_wp2_with fail
    have hq := CB.all10 HR3.out (.int .i64 0) (.int .i64 0) (.slice none 0 0) (.int .i64 0) (.string ⟨#[]⟩) (.string ⟨#[]⟩) (.slice none 0 0) (.bool false) (.int .i64 0) (.string ⟨#[]⟩)
    have q0 := hq.cell 0
    have q1 := hq.cell 1
    have q2 := hq.cell 2
    have q3 := hq.cell 3
    have q4 := hq.cell 4
    have q5 := hq.cell 5
    have q6 := hq.cell 6
    have q7 := hq.cell 7
    have q8 := hq.cell 8
    have q9 := hq.cell 9
    unfold Go.Proofs.YtmodiemmcdocdaaGreatDoor.stored10 at q0 q1 q2 q3 q4 q5 q6 q7 q8 q9
    refine bodyPost_ret (v := .tuple #[zeroQ, errV p]) (by simp [results, Tryz.results23, go_sem, zeroQ, errV, q0, q1, q2, q3, q4, q5, q6, q7, q8, q9]) rfl ?_
    exact QueryR.bad HF.out HK3.out
  have HX3 := Lib.hid (HX2.out.trans (by rw [hr3]))
  clear HX2 hr3
  rintro ⟨rfl, hq, kv, hc, hkb⟩
  obtain ⟨ak, ck, rfl⟩ := hkb.shape
  have HQ3 := Lib.hid hq
  have HC3 := Lib.hid hc
  have HK3' := Lib.hid (KsB.mono (G' := fun b => w.heap.size + 1 + 1 + 1 ≤ b) (fun b _ hb => Nat.le_trans HZ2.out hb) _ _ hkb)
  clear hq hc hkb HQ2 HC2 HR2 HB2 HK2 HM2
  have b1 := HB3.out.cell 3
  go_wp2_with fail
  rw [rounds_succ]
  go_wp2_with fail
  clear b1
  obtain ⟨y, hy⟩ : ∃ y, isT (tk ts i3) PX.wDesc = y := ⟨_, rfl⟩
  obtain ⟨i4, hi4⟩ : ∃ i4, (if y = true then i3 + 1 else i3) = i4 := ⟨_, rfl⟩
  have HX3' : Hid (queryX ts = match numX ts PX.wLimit 1 50 i4 with
        | .error e => .error e
        | .ok ((_, n), i5) => match pageB ts i5 with
          | .error e => .error e
          | .ok (p, i6) => if (tk ts i6).kind = 0 then .ok ⟨f, t, ms, x, y, n, p⟩ else .error (5, (tk ts i6).place)) := Lib.hid (by
    rw [HX3.out, ← hi4, ← hy]
    rfl)
  refine (desc_own P g c ts i3 (w.heap.size + 1) (.int .i64 f) (.int .i64 t) (.slice am ms.length cm) (.int .i64 x.op) (.string x.name) (.string x.text) (.slice ak x.kids.length ck) (.bool false) (.int .i64 0) (.string ⟨#[]⟩) w3 HQ3.out HE.out HC3.out (by omega) (by omega) y i4 hy hi4).mono ?_
  rintro e w4 ⟨hk, rfl, hq, hc⟩
  have HR4 := Lib.hid (HR3.out.keep hk (by omega))
  have HB4 := Lib.hid (HB3.out.keep hk (by omega))
  have HK4 := Lib.hid (HK3.out.trans hk)
  have HZ4 := Lib.hid (Nat.le_trans HZ3.out hk.size)
  have HM4 := Lib.hid (HM3.out.keep hk (fun b hb _ _ h => by have : w.heap.size + 1 + 1 + 1 ≤ b := hb; rcases h with h | h <;> omega))
  have HK4' := Lib.hid (KsB.keep hk.size (fun b hb hlt => hk.block b hlt (fun h => by have : w.heap.size + 1 + 1 + 1 ≤ b := hb; rcases h with h | h <;> omega)) _ _ HK3'.out)
  have HQ4 := Lib.hid hq
  have HC4 := Lib.hid hc
  clear hk hq hc HQ3 HC3 HR3 HB3 HK3 HM3 HK3' HX3 hy hi4
  have b1 := HB4.out.cell 4
  go_wp2_with fail
  rw [rounds_succ]
  go_wp2_with fail
  clear b1
  refine (limit_own P g c ts i4 (w.heap.size + 1) (.int .i64 f) (.int .i64 t) (.slice am ms.length cm) (.int .i64 x.op) (.string x.name) (.string x.text) (.slice ak x.kids.length ck) (.bool y) (.int .i64 0) (.string ⟨#[]⟩) w4 HQ4.out HE.out HC4.out (by omega) (by omega)).mono ?_
  rintro e w5 ⟨hk, ho⟩
  have HR5 := Lib.hid (HR4.out.keep hk (by omega))
  have HB5 := Lib.hid (HB4.out.keep hk (by omega))
  have HK5 := Lib.hid (HK4.out.trans hk)
  have HZ5 := Lib.hid (Nat.le_trans HZ4.out hk.size)
  have HM5 := Lib.hid (HM4.out.keep hk (fun b hb _ _ h => by have : w.heap.size + 1 + 1 + 1 ≤ b := hb; rcases h with h | h <;> omega))
  have HK5' := Lib.hid (KsB.keep hk.size (fun b hb hlt => hk.block b hlt (fun h => by have : w.heap.size + 1 + 1 + 1 ≤ b := hb; rcases h with h | h <;> omega)) _ _ HK4'.out)
  clear hk
  revert ho
  unfold limitX
  rcases hr5 : numX ts PX.wLimit 1 50 i4 with p | ⟨⟨_, n⟩, i5⟩
  · have HF : Hid (queryX ts = .error p) := Lib.hid (by rw [HX3'.out, hr5])
    clear hr5
    rintro rfl
    unfold errV
    have r0 := HR5.out.cell 0
    have f0 := HR5.out.frozen 0
    have r1 := HR5.out.cell 1
    have f1 := HR5.out.frozen 1
    have r2 := HR5.out.cell 2
    have f2 := HR5.out.frozen 2
    have r3 := HR5.out.cell 3
    have f3 := HR5.out.frozen 3
    have r4 := HR5.out.cell 4
    have f4 := HR5.out.frozen 4
    have r5 := HR5.out.cell 5
    have f5 := HR5.out.frozen 5
    have r6 := HR5.out.cell 6
    have f6 := HR5.out.frozen 6
    have r7 := HR5.out.cell 7
    have f7 := HR5.out.frozen 7
    have r8 := HR5.out.cell 8
    have f8 := HR5.out.frozen 8
    have r9 := HR5.out.cell 9
    have f9 := HR5.out.frozen 9
    go_wp2_with fail
    have hq := CB.all10 HR5.out (.int .i64 0) (.int .i64 0) (.slice none 0 0) (.int .i64 0) (.string ⟨#[]⟩) (.string ⟨#[]⟩) (.slice none 0 0) (.bool false) (.int .i64 0) (.string ⟨#[]⟩)
    have q0 := hq.cell 0
    have q1 := hq.cell 1
    have q2 := hq.cell 2
    have q3 := hq.cell 3
    have q4 := hq.cell 4
    have q5 := hq.cell 5
    have q6 := hq.cell 6
    have q7 := hq.cell 7
    have q8 := hq.cell 8
    have q9 := hq.cell 9
    unfold Go.Proofs.YtmodiemmcdocdaaGreatDoor.stored10 at q0 q1 q2 q3 q4 q5 q6 q7 q8 q9
    refine bodyPost_ret (v := .tuple #[zeroQ, errV p]) (by simp [results, Tryz.results23, go_sem, zeroQ, errV, q0, q1, q2, q3, q4, q5, q6, q7, q8, q9]) rfl ?_
    exact QueryR.bad HF.out HK5.out
  have HX5 := Lib.hid (HX3'.out.trans (by rw [hr5]))
  clear HX3' hr5
  rintro ⟨rfl, hq, hc⟩
  have HQ5 := Lib.hid hq
  have HC5 := Lib.hid hc
  clear hq hc HQ4 HC4 HR4 HB4 HK4 HM4 HK4'
  have b1 := HB5.out.cell 5
  go_wp2_with fail
  rw [rounds_succ]
  go_wp2_with fail
  clear b1
  refine (page_own P g c ts i5 (w.heap.size + 1) (.int .i64 f) (.int .i64 t) (.slice am ms.length cm) (.int .i64 x.op) (.string x.name) (.string x.text) (.slice ak x.kids.length ck) (.bool y) (.int .i64 n) (.string ⟨#[]⟩) w5 HQ5.out HE.out HC5.out (by omega) (by omega)).mono ?_
  rintro e w6 ⟨hk, ho⟩
  have HR6 := Lib.hid (HR5.out.keep hk (by omega))
  have HB6 := Lib.hid (HB5.out.keep hk (by omega))
  have HK6 := Lib.hid (HK5.out.trans hk)
  have HZ6 := Lib.hid (Nat.le_trans HZ5.out hk.size)
  have HM6 := Lib.hid (HM5.out.keep hk (fun b hb _ _ h => by have : w.heap.size + 1 + 1 + 1 ≤ b := hb; rcases h with h | h <;> omega))
  have HK6' := Lib.hid (KsB.keep hk.size (fun b hb hlt => hk.block b hlt (fun h => by have : w.heap.size + 1 + 1 + 1 ≤ b := hb; rcases h with h | h <;> omega)) _ _ HK5'.out)
  clear hk
  revert ho
  rw [pageX_is]
  rcases hr6 : pageB ts i5 with p | ⟨pg, i6⟩
  · have HF : Hid (queryX ts = .error p) := Lib.hid (by rw [HX5.out, hr6])
    clear hr6
    rintro rfl
    unfold errV
    have r0 := HR6.out.cell 0
    have f0 := HR6.out.frozen 0
    have r1 := HR6.out.cell 1
    have f1 := HR6.out.frozen 1
    have r2 := HR6.out.cell 2
    have f2 := HR6.out.frozen 2
    have r3 := HR6.out.cell 3
    have f3 := HR6.out.frozen 3
    have r4 := HR6.out.cell 4
    have f4 := HR6.out.frozen 4
    have r5 := HR6.out.cell 5
    have f5 := HR6.out.frozen 5
    have r6 := HR6.out.cell 6
    have f6 := HR6.out.frozen 6
    have r7 := HR6.out.cell 7
    have f7 := HR6.out.frozen 7
    have r8 := HR6.out.cell 8
    have f8 := HR6.out.frozen 8
    have r9 := HR6.out.cell 9
    have f9 := HR6.out.frozen 9
    go_wp2_with fail
    have hq := CB.all10 HR6.out (.int .i64 0) (.int .i64 0) (.slice none 0 0) (.int .i64 0) (.string ⟨#[]⟩) (.string ⟨#[]⟩) (.slice none 0 0) (.bool false) (.int .i64 0) (.string ⟨#[]⟩)
    have q0 := hq.cell 0
    have q1 := hq.cell 1
    have q2 := hq.cell 2
    have q3 := hq.cell 3
    have q4 := hq.cell 4
    have q5 := hq.cell 5
    have q6 := hq.cell 6
    have q7 := hq.cell 7
    have q8 := hq.cell 8
    have q9 := hq.cell 9
    unfold Go.Proofs.YtmodiemmcdocdaaGreatDoor.stored10 at q0 q1 q2 q3 q4 q5 q6 q7 q8 q9
    refine bodyPost_ret (v := .tuple #[zeroQ, errV p]) (by simp [results, Tryz.results23, go_sem, zeroQ, errV, q0, q1, q2, q3, q4, q5, q6, q7, q8, q9]) rfl ?_
    exact QueryR.bad HF.out HK6.out
  have HX6 := Lib.hid (HX5.out.trans (by rw [hr6]))
  clear HX5 hr6
  rintro ⟨rfl, hq, hc⟩
  have HQ6 := Lib.hid hq
  have HC6 := Lib.hid hc
  clear hq hc HQ5 HC5 HR5 HB5 HK5 HM5 HK5'
  have b1 := HB6.out.cell 6
  go_wp2_with fail
  rw [rounds_succ]
  go_wp2_with fail
  clear b1
  have HEN := Lib.hid (end_own P g c ts i6 (.pointer (some ⟨w.heap.size + 1, 0, none⟩)) w6 HQ6.out)
  by_cases hk0 : (tk ts i6).kind = 0
  · have HF : Hid (queryX ts = .ok ⟨f, t, ms, x, y, n, pg⟩) := Lib.hid (by rw [HX6.out]; rw [if_pos hk0])
    simp only [if_pos hk0] at HEN
    clear hk0 HX6
    refine HEN.out.mono ?_
    rintro e w7 ⟨rfl, hkP⟩
    have hk := Keep.pq (Q := w.heap.size + 1) hkP
    have HR7 := Lib.hid (HR6.out.keep hk (by omega))
    have HB7 := Lib.hid (HB6.out.keep hk (by omega))
    have HK7 := Lib.hid (HK6.out.trans hk)
    have HZ7 := Lib.hid (Nat.le_trans HZ6.out hk.size)
    have HM7 := Lib.hid (HM6.out.keep hk (fun b hb _ _ h => by have : w.heap.size + 1 + 1 + 1 ≤ b := hb; rcases h with h | h <;> omega))
    have HK7' := Lib.hid (KsB.keep hk.size (fun b hb hlt => hk.block b hlt (fun h => by have : w.heap.size + 1 + 1 + 1 ≤ b := hb; rcases h with h | h <;> omega)) _ _ HK6'.out)
    have HC7 := Lib.hid (HC6.out.keep hkP (by omega))
    clear hk hkP HQ6 HC6 HR6 HB6 HK6 HM6 HK6' HEN
    go_wp2_with fail
    rw [rounds_succ]
    have r0 := HR7.out.cell 0
    have f0 := HR7.out.frozen 0
    have r1 := HR7.out.cell 1
    have f1 := HR7.out.frozen 1
    have r2 := HR7.out.cell 2
    have f2 := HR7.out.frozen 2
    have r3 := HR7.out.cell 3
    have f3 := HR7.out.frozen 3
    have r4 := HR7.out.cell 4
    have f4 := HR7.out.frozen 4
    have r5 := HR7.out.cell 5
    have f5 := HR7.out.frozen 5
    have r6 := HR7.out.cell 6
    have f6 := HR7.out.frozen 6
    have r7 := HR7.out.cell 7
    have f7 := HR7.out.frozen 7
    have r8 := HR7.out.cell 8
    have f8 := HR7.out.frozen 8
    have r9 := HR7.out.cell 9
    have f9 := HR7.out.frozen 9
    have d0 := HC7.out.cell 0
    have d1 := HC7.out.cell 1
    have d2 := HC7.out.cell 2
    have d3 := HC7.out.cell 3
    have d4 := HC7.out.cell 4
    have d5 := HC7.out.cell 5
    have d6 := HC7.out.cell 6
    have d7 := HC7.out.cell 7
    have d8 := HC7.out.cell 8
    have d9 := HC7.out.cell 9
    go_wp2_with fail
    have hks := keep_stored10 (Keep.refl (fun k => k = w.heap.size) w7) (.inr rfl) (.int .i64 f) (.int .i64 t) (.slice am ms.length cm) (.int .i64 x.op) (.string x.name) (.string x.text) (.slice ak x.kids.length ck) (.bool y) (.int .i64 n) (.string pg)
    have hmv := HM7.out.keep hks (fun b hb _ _ e => by have : w.heap.size + 1 + 1 + 1 ≤ b := hb; omega)
    have hkv := KsB.keep hks.size (fun b hb hlt => hks.block b hlt (fun e => by have : w.heap.size + 1 + 1 + 1 ≤ b := hb; omega)) _ _ HK7'.out
    have hkk := (keep_stored10 HK7.out (.inl (Nat.le_refl _)) (.int .i64 f) (.int .i64 t) (.slice am ms.length cm) (.int .i64 x.op) (.string x.name) (.string x.text) (.slice ak x.kids.length ck) (.bool y) (.int .i64 n) (.string pg)).into (H := fun k => k = P) (fun k hk h => h.elim id fun h => by omega)
    have hq := CB.all10 HR7.out (.int .i64 f) (.int .i64 t) (.slice am ms.length cm) (.int .i64 x.op) (.string x.name) (.string x.text) (.slice ak x.kids.length ck) (.bool y) (.int .i64 n) (.string pg)
    have q0 := hq.cell 0
    have q1 := hq.cell 1
    have q2 := hq.cell 2
    have q3 := hq.cell 3
    have q4 := hq.cell 4
    have q5 := hq.cell 5
    have q6 := hq.cell 6
    have q7 := hq.cell 7
    have q8 := hq.cell 8
    have q9 := hq.cell 9
    unfold Go.Proofs.YtmodiemmcdocdaaGreatDoor.stored10 at q0 q1 q2 q3 q4 q5 q6 q7 q8 q9 hmv hkv hkk
    refine bodyPost_ret (v := .tuple #[.agg #[.int .i64 f, .int .i64 t, .slice am ms.length cm, .int .i64 x.op, .string x.name, .string x.text, .slice ak x.kids.length ck, .bool y, .int .i64 n, .string pg], .nilIface]) (by simp [results, Tryz.results23, go_sem, q0, q1, q2, q3, q4, q5, q6, q7, q8, q9]) rfl ?_
    unfold QueryR
    rw [HF.out]
    exact ⟨hkk, .slice am ms.length cm, .slice ak x.kids.length ck, rfl, hmv.mono (fun b hb _ => by have : w.heap.size + 1 + 1 + 1 ≤ b := hb; omega), HM.out, KsB.mono (fun b _ hb => by have : w.heap.size + 1 + 1 + 1 ≤ b := hb; omega) _ _ hkv⟩
  · have HF : Hid (queryX ts = .error (5, (tk ts i6).place)) := Lib.hid (by rw [HX6.out]; rw [if_neg hk0])
    simp only [if_neg hk0] at HEN
    clear hk0 HX6
    obtain ⟨p, hp⟩ : ∃ p : Nat × Nat, p = (5, (tk ts i6).place) := ⟨_, rfl⟩
    rw [← hp] at HF HEN
    clear hp
    refine HEN.out.mono ?_
    rintro e w7 ⟨rfl, hk⟩
    have hk := Keep.pq (Q := w.heap.size + 1) hk
    have HR7 := Lib.hid (HR6.out.keep hk (by omega))
    have HB7 := Lib.hid (HB6.out.keep hk (by omega))
    have HK7 := Lib.hid (HK6.out.trans hk)
    have HZ7 := Lib.hid (Nat.le_trans HZ6.out hk.size)
    clear hk
    unfold errV
    have r0 := HR7.out.cell 0
    have f0 := HR7.out.frozen 0
    have r1 := HR7.out.cell 1
    have f1 := HR7.out.frozen 1
    have r2 := HR7.out.cell 2
    have f2 := HR7.out.frozen 2
    have r3 := HR7.out.cell 3
    have f3 := HR7.out.frozen 3
    have r4 := HR7.out.cell 4
    have f4 := HR7.out.frozen 4
    have r5 := HR7.out.cell 5
    have f5 := HR7.out.frozen 5
    have r6 := HR7.out.cell 6
    have f6 := HR7.out.frozen 6
    have r7 := HR7.out.cell 7
    have f7 := HR7.out.frozen 7
    have r8 := HR7.out.cell 8
    have f8 := HR7.out.frozen 8
    have r9 := HR7.out.cell 9
    have f9 := HR7.out.frozen 9
    go_wp2_with fail
    have hq := CB.all10 HR7.out (.int .i64 0) (.int .i64 0) (.slice none 0 0) (.int .i64 0) (.string ⟨#[]⟩) (.string ⟨#[]⟩) (.slice none 0 0) (.bool false) (.int .i64 0) (.string ⟨#[]⟩)
    have q0 := hq.cell 0
    have q1 := hq.cell 1
    have q2 := hq.cell 2
    have q3 := hq.cell 3
    have q4 := hq.cell 4
    have q5 := hq.cell 5
    have q6 := hq.cell 6
    have q7 := hq.cell 7
    have q8 := hq.cell 8
    have q9 := hq.cell 9
    unfold Go.Proofs.YtmodiemmcdocdaaGreatDoor.stored10 at q0 q1 q2 q3 q4 q5 q6 q7 q8 q9
    refine bodyPost_ret (v := .tuple #[zeroQ, errV p]) (by simp [results, Tryz.results23, go_sem, zeroQ, errV, q0, q1, q2, q3, q4, q5, q6, q7, q8, q9]) rfl ?_
    exact QueryR.bad HF.out HK7.out
end Go.Proofs.YtmodiemmcdocdaaGreatDoor

namespace Go.Proofs.YtmodiemmcdocdaaGreatDoor
open Go.RowKit Go.Extern.Stop Go.Stop Go.Extern Go

/-- errors.As of no error. -/
theorem as_nil (t : Value) (w : World) : Calls Tryz.prog 24 #[.nilIface, t] w fun e w' => e = .returned (.bool false) ∧ w = w' := by
  go_enter Tryz.func24, Tryz.ntmps24
  go_wp2
  go_ret
  exact ⟨rfl, rfl⟩

theorem valueOf65 (t : Addr) (w : World) : (ReflectliteValue.unpack (.iface 65 (.pointer (some t)))).run Tryz.prog w
    = .ok (.agg #[.pointer (some ⟨10, 65, none⟩), .pointer (some ⟨w.heap.size, 0, none⟩), .int .u64 150]) (w.alloc (.cells #[.pointer (some t)] 65)) := by kernel_rfl
theorem type65 (a : Addr) (w : World) : (ReflectliteValue.methodAny (ReflectliteValue.valueError "reflectlite.Value.Type" 0) (fun t _ _ _ => ReflectliteType.toType t) #[.agg #[.pointer (some ⟨10, 65, none⟩), .pointer (some a), .int .u64 150]]).run Tryz.prog w
    = .ok (.iface 151 (.agg #[.pointer (some ⟨10, 65, none⟩)])) w := by kernel_rfl
theorem kind65 (w : World) : ((ReflectliteType.abiMethod fun t => (fun a : Nat => Value.int IntKind.u8 (a : Int)) <$> Rtype.kind t) #[.pointer (some ⟨10, 65, none⟩)]).run Tryz.prog w = .ok (.int .u8 22) w := by kernel_rfl
theorem kind63 (w : World) : ((ReflectliteType.abiMethod fun t => (fun a : Nat => Value.int IntKind.u8 (a : Int)) <$> Rtype.kind t) #[.pointer (some ⟨10, 63, none⟩)]).run Tryz.prog w = .ok (.int .u8 25) w := by kernel_rfl
theorem rlm (z : Sem Value) (f : TypeId → Addr → Nat → Nat → Sem Value) (v : Value) :
    ReflectliteValue.method z f #[v] = (do match ← ReflectliteValue.parts v with | none => z | some (t, a, fl) => f t a fl (fl % 32)) := rfl
theorem parts65 (a : Addr) (w : World) : (ReflectliteValue.parts (.agg #[.pointer (some ⟨10, 65, none⟩), .pointer (some a), .int .u64 150])).run Tryz.prog w = .ok (some (65, a, 150)) w := by kernel_rfl
theorem isNil65 (a p : Addr) (W : World) (ha : W.cell? a = some (.pointer (some p))) :
    (ReflectliteValue.method (ReflectliteValue.valueError "reflectlite.Value.IsNil" 0) ReflectliteValue.isNil #[.agg #[.pointer (some ⟨10, 65, none⟩), .pointer (some a), .int .u64 150]]).run Tryz.prog W = .ok (.bool false) W := by
  rw [rlm]
  simp only [Sem.run_bind, parts65, Result.andThen]
  simp [ReflectliteValue.isNil, loadVar, isAgg, underlying, Tryz.underlying65, ha, Result.andThen]
theorem elem65 (w : World) : (ReflectliteType.method ReflectliteType.elem #[.agg #[.pointer (some ⟨10, 65, none⟩)]]).run Tryz.prog w = .ok (.iface 151 (.agg #[.pointer (some ⟨10, 63, none⟩)])) w := by kernel_rfl
theorem implements63 (w : World) : (ReflectliteType.relation "Implements" ReflectliteType.implements_ #[.agg #[.pointer (some ⟨10, 63, none⟩)], .iface 151 (.agg #[.pointer (some ⟨10, 60, none⟩)])]).run Tryz.prog w = .ok (.bool true) w := by kernel_rfl
theorem typeOf63 (v : Value) (w : World) : (ReflectliteType.typeOf #[.iface 63 v]).run Tryz.prog w = .ok (.iface 151 (.agg #[.pointer (some ⟨10, 63, none⟩)])) w := by kernel_rfl
theorem assignable63 (w : World) : (ReflectliteType.relation "AssignableTo" ReflectliteType.assignableTo #[.agg #[.pointer (some ⟨10, 63, none⟩)], .iface 151 (.agg #[.pointer (some ⟨10, 63, none⟩)])]).run Tryz.prog w = .ok (.bool true) w := by kernel_rfl
theorem valueOf63 (x y : Int) (w : World) : (ReflectliteValue.unpack (.iface 63 (.agg #[.int .i64 x, .int .i64 y]))).run Tryz.prog w
    = .ok (.agg #[.pointer (some ⟨10, 63, none⟩), .pointer (some ⟨w.heap.size, 0, none⟩), .int .u64 153]) (w.alloc (.cells #[.int .i64 x, .int .i64 y] 63)) := by kernel_rfl
theorem elemOf65 (w : World) : (Rtype.elem? 65).run Tryz.prog w = .ok (some 63) w := by kernel_rfl
theorem mk63 (p : Addr) (w : World) : (ReflectliteValue.mk 63 p ReflectliteValue.flagAddr).run Tryz.prog w = .ok (.agg #[.pointer (some ⟨10, 63, none⟩), .pointer (some p), .int .u64 409]) w := by kernel_rfl
theorem elemV65 (a p : Addr) (W : World) (ha : W.cell? a = some (.pointer (some p))) :
    (ReflectliteValue.method (ReflectliteValue.valueError "reflectlite.Value.Elem" 0) ReflectliteValue.elem #[.agg #[.pointer (some ⟨10, 65, none⟩), .pointer (some a), .int .u64 150]]).run Tryz.prog W
      = .ok (.agg #[.pointer (some ⟨10, 63, none⟩), .pointer (some p), .int .u64 409]) W := by
  rw [rlm]
  simp only [Sem.run_bind, parts65, Result.andThen]
  simp [ReflectliteValue.elem, loadVar, isAgg, underlying, Tryz.underlying65, ha, Result.andThen, elemOf65, mk63]
theorem rls (v x : Value) : ReflectliteValue.set #[v, x] = (do
    let (some (dst, a, fl), some (src, b, _)) := (← ReflectliteValue.parts v, ← ReflectliteValue.parts x)
      | unsupported (.noEntry "extern/(internal/reflectlite.Value).Set.zeroValue")
    if fl / ReflectliteValue.flagAddr % 2 == 0 then unsupported (.noEntry "extern/(internal/reflectlite.Value).Set.unaddressable")
    let val ← loadVar src b
    if ← Rtype.directlyAssignable dst src then storeVar dst a val
    else if ← Rtype.implements dst src then
      if (← Rtype.kind src) == 20 then
        match val with
        | .nilIface => unsupported (.noEntry "extern/reflectlite: a nil value of one interface type handed on as a value of another")
        | _ => storeVar dst a val
      else storeVar dst a (.iface src val)
    else panicString ("reflectlite.Set: value of type " ++ (← Rtype.spelt src) ++ " is not assignable to type " ++ (← Rtype.spelt dst))
    pure (.tuple #[])) := rfl
theorem parts63a (a : Addr) (w : World) : (ReflectliteValue.parts (.agg #[.pointer (some ⟨10, 63, none⟩), .pointer (some a), .int .u64 409])).run Tryz.prog w = .ok (some (63, a, 409)) w := by kernel_rfl
theorem parts63 (a : Addr) (w : World) : (ReflectliteValue.parts (.agg #[.pointer (some ⟨10, 63, none⟩), .pointer (some a), .int .u64 153])).run Tryz.prog w = .ok (some (63, a, 153)) w := by kernel_rfl
theorem direct63 (w : World) : (Rtype.directlyAssignable 63 63).run Tryz.prog w = .ok true w := by kernel_rfl
theorem set63 (T B : Nat) (x y : Int) (o0 o1 : Value) (W : World) (hb0 : W.cell? ⟨B, 0, none⟩ = some (.int .i64 x)) (hb1 : W.cell? ⟨B, 1, none⟩ = some (.int .i64 y)) (ht0 : W.cell? ⟨T, 0, none⟩ = some o0) (ht1 : W.cell? ⟨T, 1, none⟩ = some o1) (hf0 : W.frozen? ⟨T, 0, none⟩ = false) (hf1 : W.frozen? ⟨T, 1, none⟩ = false) :
    (ReflectliteValue.set #[.agg #[.pointer (some ⟨10, 63, none⟩), .pointer (some ⟨T, 0, none⟩), .int .u64 409], .agg #[.pointer (some ⟨10, 63, none⟩), .pointer (some ⟨B, 0, none⟩), .int .u64 153]]).run Tryz.prog W
      = .ok (.tuple #[]) ((W.setCell ⟨T, 0, none⟩ (.int .i64 x)).setCell ⟨T, 1, none⟩ (.int .i64 y)) := by
  have hl : (loadCells ⟨B, 0, none⟩ 2).run Tryz.prog W = .ok #[.int .i64 x, .int .i64 y] W := by
    have := run_loadCells_list (P := Tryz.prog) W ⟨B, 0, none⟩ [.int .i64 x, .int .i64 y] (fun j v hj => by
      match j, hj with
      | 0, hj => cases hj; exact hb0
      | 1, hj => cases hj; exact hb1)
    simpa using this
  have h1 : (W.setCell ⟨T, 0, none⟩ (.int .i64 x)).cell? ⟨T, 1, none⟩ = some o1 := by go_simp
  have g1 : (W.setCell ⟨T, 0, none⟩ (.int .i64 x)).frozen? ⟨T, 1, none⟩ = false := by go_simp
  rw [rls]
  simp only [Sem.run_bind, parts63a, parts63, Result.andThen]
  simp [ReflectliteValue.flagAddr, loadVar, isAgg, underlying, Tryz.underlying63, Result.andThen, direct63, storeVar, Value.cells, storeCells, Addr.add, hl]
  rw [run_store Tryz.prog W ⟨T, 0, none⟩ _ _ (by rfl)]
  simp [ht0, hf0]
  rw [run_store Tryz.prog _ ⟨T, 1, none⟩ _ _ (by rfl)]
  simp [h1, g1]
end Go.Proofs.YtmodiemmcdocdaaGreatDoor

namespace Go.Proofs.YtmodiemmcdocdaaGreatDoor
open Go.RowKit Go.Extern.Stop Go.Stop Go.Extern Go

theorem methodKind (h : Value) (w : World) : (Go.method 347 151 (.agg #[h]) "Kind").run Tryz.prog w = .ok (181, h) w := by kernel_rfl
theorem methodElem (h : Value) (w : World) : (Go.method 347 151 (.agg #[h]) "Elem").run Tryz.prog w = .ok (191, .agg #[h]) w := by kernel_rfl
theorem methodImplements (h : Value) (w : World) : (Go.method 347 151 (.agg #[h]) "Implements").run Tryz.prog w = .ok (192, .agg #[h]) w := by kernel_rfl
theorem methodAssignableTo (h : Value) (w : World) : (Go.method 347 151 (.agg #[h]) "AssignableTo").run Tryz.prog w = .ok (189, .agg #[h]) w := by kernel_rfl

set_option maxHeartbeats 4000000 in
set_option maxRecDepth 100000 in
theorem as_hit (x y : Int) (T : Nat) (o0 o1 : Value) (w : World) (hg : w.cell? ⟨0, 0, none⟩ = some (.iface 151 (.agg #[.pointer (some ⟨10, 60, none⟩)]))) (ht0 : w.cell? ⟨T, 0, none⟩ = some o0) (ht1 : w.cell? ⟨T, 1, none⟩ = some o1) (hf0 : w.frozen? ⟨T, 0, none⟩ = false) (hf1 : w.frozen? ⟨T, 1, none⟩ = false) :
    Calls Tryz.prog 24 #[.iface 63 (.agg #[.int .i64 x, .int .i64 y]), .iface 65 (.pointer (some ⟨T, 0, none⟩))] w fun ev w' => ev = .returned (.bool true) ∧ ∃ W, Lay w W ∧ w' = (W.setCell ⟨T, 0, none⟩ (.int .i64 x)).setCell ⟨T, 1, none⟩ (.int .i64 y) := by
  have h6 := @run_callFunc_extern Tryz.prog 56 _ (fun args => ReflectliteValue.unpack (args.getD 0 (.tuple #[]))) Tryz.func56 (by kernel_rfl) (by kernel_rfl) (by kernel_rfl) (by kernel_rfl)
  have h7 := @run_callFunc_extern Tryz.prog 57 _ (ReflectliteValue.methodAny (ReflectliteValue.valueError "reflectlite.Value.Type" 0) (fun t _ _ _ => ReflectliteType.toType t)) Tryz.func57 (by kernel_rfl) (by kernel_rfl) (by kernel_rfl) (by kernel_rfl)
  have h8 := @run_callFunc_extern Tryz.prog 58 _ (ReflectliteValue.method (ReflectliteValue.valueError "reflectlite.Value.IsNil" 0) ReflectliteValue.isNil) Tryz.func58 (by kernel_rfl) (by kernel_rfl) (by kernel_rfl) (by kernel_rfl)
  have h27 := @run_callFunc_extern Tryz.prog 181 _ (ReflectliteType.abiMethod fun t => do pure (.int .u8 (← Rtype.kind t))) Tryz.func181 (by kernel_rfl) (by kernel_rfl) (by kernel_rfl) (by kernel_rfl)
  have h37 := @run_callFunc_extern Tryz.prog 191 _ (ReflectliteType.method ReflectliteType.elem) Tryz.func191 (by kernel_rfl) (by kernel_rfl) (by kernel_rfl) (by kernel_rfl)
  have h38 := @run_callFunc_extern Tryz.prog 192 _ (ReflectliteType.relation "Implements" ReflectliteType.implements_) Tryz.func192 (by kernel_rfl) (by kernel_rfl) (by kernel_rfl) (by kernel_rfl)
  have h10 := @run_callFunc_extern Tryz.prog 92 _ ReflectliteType.typeOf Tryz.func92 (by kernel_rfl) (by kernel_rfl) (by kernel_rfl) (by kernel_rfl)
  have h35 := @run_callFunc_extern Tryz.prog 189 _ (ReflectliteType.relation "AssignableTo" ReflectliteType.assignableTo) Tryz.func189 (by kernel_rfl) (by kernel_rfl) (by kernel_rfl) (by kernel_rfl)
  have h11 := @run_callFunc_extern Tryz.prog 93 _ (ReflectliteValue.method (ReflectliteValue.valueError "reflectlite.Value.Elem" 0) ReflectliteValue.elem) Tryz.func93 (by kernel_rfl) (by kernel_rfl) (by kernel_rfl) (by kernel_rfl)
  have h12 := @run_callFunc_extern Tryz.prog 94 _ ReflectliteValue.set Tryz.func94 (by kernel_rfl) (by kernel_rfl) (by kernel_rfl) (by kernel_rfl)
  have tO := typeOf63
  have mA := methodAssignableTo
  have a25 := assignable63
  have v25 := valueOf63
  have f6 := valueOf65
  have f7 := type65
  have mK := methodKind
  have mE := methodElem
  have mI := methodImplements
  have k27 := kind65
  have k25 := kind63
  have e27 := elem65
  have i25 := implements63
  have n8 := isNil65 ⟨w.heap.size, 0, none⟩ ⟨T, 0, none⟩ ((w.alloc (.cells #[.pointer (some ⟨T, 0, none⟩)] 65)).alloc (.cells #[.pointer (some ⟨10, 65, none⟩), .pointer (some ⟨w.heap.size, 0, none⟩), .int .u64 150] 103)) (by simp)
  have hlt : 0 < w.heap.size := by
    rcases Nat.eq_zero_or_pos w.heap.size with h0 | h
    · simp [World.cell?, h0] at hg
    · exact h
  have htl : T < w.heap.size := by
    rcases Nat.lt_or_ge T w.heap.size with h | h
    · exact h
    · simp [World.cell?, Array.getElem?_eq_none h] at ht0
  have hl2 : Lay w ((w.alloc (.cells #[.pointer (some ⟨T, 0, none⟩)] 65)).alloc (.cells #[.pointer (some ⟨10, 65, none⟩), .pointer (some ⟨w.heap.size, 0, none⟩), .int .u64 150] 103)) := ((Keep.refl _ w).alloc _).alloc _
  have hl3 : Lay w (((w.alloc (.cells #[.pointer (some ⟨T, 0, none⟩)] 65)).alloc (.cells #[.pointer (some ⟨10, 65, none⟩), .pointer (some ⟨w.heap.size, 0, none⟩), .int .u64 150] 103)).alloc (.cells #[.pointer (some ⟨10, 65, none⟩), .pointer (some ⟨w.heap.size, 0, none⟩), .int .u64 150] 103)) := hl2.alloc _
  have hl4 : Lay w ((((w.alloc (.cells #[.pointer (some ⟨T, 0, none⟩)] 65)).alloc (.cells #[.pointer (some ⟨10, 65, none⟩), .pointer (some ⟨w.heap.size, 0, none⟩), .int .u64 150] 103)).alloc (.cells #[.pointer (some ⟨10, 65, none⟩), .pointer (some ⟨w.heap.size, 0, none⟩), .int .u64 150] 103)).alloc (.cells #[.int .i64 x, .int .i64 y] 63)) := hl3.alloc _
  have hg2 : ((w.alloc (.cells #[.pointer (some ⟨T, 0, none⟩)] 65)).alloc (.cells #[.pointer (some ⟨10, 65, none⟩), .pointer (some ⟨w.heap.size, 0, none⟩), .int .u64 150] 103)).cell? ⟨0, 0, none⟩ = some (.iface 151 (.agg #[.pointer (some ⟨10, 60, none⟩)])) := (hl2.cell hlt).trans hg
  have el := elemV65 ⟨w.heap.size, 0, none⟩ ⟨T, 0, none⟩ (((w.alloc (.cells #[.pointer (some ⟨T, 0, none⟩)] 65)).alloc (.cells #[.pointer (some ⟨10, 65, none⟩), .pointer (some ⟨w.heap.size, 0, none⟩), .int .u64 150] 103)).alloc (.cells #[.pointer (some ⟨10, 65, none⟩), .pointer (some ⟨w.heap.size, 0, none⟩), .int .u64 150] 103)) (by rw [World.cell?_alloc_lt _ _ ⟨w.heap.size, 0, none⟩ (by simp; omega)]; simp)
  have st := set63 T (w.heap.size + 1 + 1 + 1) x y o0 o1 ((((w.alloc (.cells #[.pointer (some ⟨T, 0, none⟩)] 65)).alloc (.cells #[.pointer (some ⟨10, 65, none⟩), .pointer (some ⟨w.heap.size, 0, none⟩), .int .u64 150] 103)).alloc (.cells #[.pointer (some ⟨10, 65, none⟩), .pointer (some ⟨w.heap.size, 0, none⟩), .int .u64 150] 103)).alloc (.cells #[.int .i64 x, .int .i64 y] 63))
    (by rw [World.cell?_alloc_at _ _ _ _ (by simp)]; rfl) (by rw [World.cell?_alloc_at _ _ _ _ (by simp)]; rfl)
    ((hl4.cell htl).trans ht0) ((hl4.cell htl).trans ht1)
    ((World.frozen?_of_block (a := ⟨T, 0, none⟩) (hl4.block htl)).trans hf0) ((World.frozen?_of_block (a := ⟨T, 1, none⟩) (hl4.block htl)).trans hf1)
  have HL4 := Lib.hid hl4
  clear hl2 hl3 hl4
  go_enter Tryz.func24, Tryz.ntmps24
  go_wp2
  refine wp_loop_rounds 1 ?_
  rw [rounds_succ]
  go_wp2
  go_ret
  exact ⟨rfl, _, HL4.out, rfl⟩
end Go.Proofs.YtmodiemmcdocdaaGreatDoor
