/-
  Open, whatever it is handed; Handles.
-/
import Derived.Test.YtdlannfjnljbcaaGreatDoorR11
set_option linter.unusedVariables false
namespace Go.Proofs.YtdlannfjnljbcaaGreatDoor
open Go.RowKit

theorem least_cases (hs : List (Option Int)) : least hs = -1 ∨ ∃ k : Nat, least hs = k ∧ k < hs.length ∧ hop hs k = false := by
  unfold least
  cases e : hs.findIdx? Option.isNone with
  | none => exact .inl rfl
  | some k =>
    rw [List.findIdx?_eq_some_iff_getElem] at e
    obtain ⟨h, h1, -⟩ := e
    refine .inr ⟨k, rfl, h, ?_⟩
    rw [hop_iff h, h1]
    rfl

theorem hopen_any (base b N : Nat) (x : Int) (S : Sta) (F : List Nat) (w : World) (H : Rts w base b N S F) (hO : S.Ok) :
    Calls Tryz.prog 7 #[.pointer (some ⟨b, 0, none⟩), .int .i64 x] w fun e w' => e = .returned (.tuple #[.int .i64 S.openV, .int .i64 S.openE]) ∧ Rts w' base b N (S.openS x) F ∧ Touch F w w' := by
  obtain ⟨g, h, q, FQ, vs, H, rfl⟩ := H
  have hix := index_any h S.hs w H.hnd hO.hn
  rcases least_cases S.hs with hl | ⟨k, hl, hk, hc⟩
  · have e1 : S.openV = 0 := by unfold Sta.openV; rw [hl]; rfl
    have e2 : S.openE = 56 := by unfold Sta.openE; rw [hl]; rfl
    have e3 : S.openS x = S := by unfold Sta.openS; rw [hl]; rfl
    rw [e1, e2, e3]
    refine (open_no b h S.hs.length x (least S.hs) w _ H.c2 (by omega) hix).mono ?_
    rintro e w' ⟨rfl, hb⟩
    exact ⟨rfl, ⟨g, h, q, FQ, vs, H.touch (Touch.of_below hb []) (fun k _ h => by cases h), rfl⟩, Touch.of_below hb _⟩
  · have e1 : S.openV = k := by unfold Sta.openV; rw [hl, if_neg (by omega)]
    have e2 : S.openE = 0 := by unfold Sta.openE; rw [hl, if_neg (by omega)]
    have e3 : S.openS x = { S with hs := S.hs.set k (some (adr x)) } := by unfold Sta.openS; rw [hl, if_neg (by omega)]; rfl
    rw [e1, e2, e3]
    rw [hl] at hix
    have key : ∀ w', Below w.heap.size w w' → Rt w' base b g h q N FQ vs S := fun w' hb => H.touch (Touch.of_below hb []) (fun k _ h => by cases h)
    refine (open_yes b h S.hs.length k x w _ H.c2 hk (fun w' hb => ?_) hix).mono ?_
    · have H' := key w' hb
      have c0 := H'.hnd.cell (i := k * 2) (by omega)
      have c1 := H'.hnd.cell (i := k * 2 + 1) (by omega)
      rw [hcell_even] at c0
      rw [hcell_odd] at c1
      exact ⟨H'.c2, ⟨_, c0⟩, ⟨_, c1⟩, H'.hnd.frozen _, H'.hnd.frozen _⟩
    · rintro e w' ⟨rfl, w1, hb, rfl⟩
      obtain ⟨H', tt⟩ := hset_rt (key w1 hb) hk (some (adr x)) 1
      exact ⟨rfl, ⟨g, h, q, FQ, vs, H', rfl⟩, (Touch.of_below hb _).trans (tt.mono (fun k hk => .inl (by simp at hk; simp [mem_fp, hk])))⟩

theorem mem_set_cases {α : Type} {l : List α} {i : Nat} {a x : α} (h : x ∈ l.set i a) : x ∈ l ∨ x = a := List.mem_or_eq_of_mem_set h

theorem Sta.Ok.openS {S : Sta} (h : S.Ok) (x : Int) : (S.openS x).Ok := by
  unfold Sta.openS
  split
  · exact h
  · refine ⟨h.T1, h.T8, h.m1, h.m2, by simpa using h.hn, h.sum, h.pos, h.room, h.s0, fun y hy => ?_, h.q0⟩
    rcases mem_set_cases hy with hy | hy
    · exact h.h0 y hy
    · simp only [Option.some.injEq] at hy; subst hy; exact adr_nn x

theorem Sta.Ok.closeS {S : Sta} (h : S.Ok) (i : Int) : (S.closeS i).Ok := by
  unfold Sta.closeS
  split
  · refine ⟨h.T1, h.T8, h.m1, h.m2, by simpa using h.hn, h.sum, h.pos, h.room, h.s0, fun y hy => ?_, h.q0⟩
    rcases mem_set_cases hy with hy | hy
    · exact h.h0 y hy
    · cases hy
  · exact h

theorem take_snoc' {α : Type} {zs : List α} {k : Nat} {x : α} (h : zs[k]? = some x) : zs.take k ++ [x] = zs.take (k + 1) := by
  rw [List.take_add_one, h]; rfl

/-- What Handles tells. -/
def tolds (hs : List (Option Int)) : List Int := hs.map fun o => o.getD (-1)

theorem told_any (o : Bool) (a : Int) (w : World) (h : o = false → a = 0) :
    Calls Tryz.prog 29 #[.agg #[.bool o, .int .i64 a]] w fun e w' => e = .returned (.int .i64 (if o then a else -1)) ∧ Below w.heap.size w w' := by
  have heq := fun (w : World) => eq_handle o false a 0 w
  have hb := Below.alloc (Below.refl w.heap.size w) (Nat.le_refl _) (.cells #[.bool o, .int .i64 a] 72)
  cases o
  · have := h rfl
    subst this
    clear h
    go_enter Tryz.func29, Tryz.ntmps29
    go_wp2
    go_ret
    exact ⟨rfl, hb⟩
  · clear h
    go_enter Tryz.func29, Tryz.ntmps29
    go_wp2
    go_ret
    exact ⟨rfl, hb⟩

set_option maxRecDepth 20000 in
set_option maxHeartbeats 2000000 in
theorem handles_walk (b h : Nat) (hs : List (Option Int)) (w : World) (h0 : w.cell? ⟨b, 2, none⟩ = some (.slice (some ⟨h, 0, none⟩) hs.length hs.length)) (hr : w.rowIs h 72 (hs.length * 2) (hcell hs)) (hH : hs.length ≤ 1024) :
    Calls Tryz.prog 9 #[.pointer (some ⟨b, 0, none⟩)] w fun e w' => ∃ v', e = .returned v' ∧ w'.ownsRow w.heap.size 3 1 v' hs.length (ints (tolds hs)) ∧ Below w.heap.size w w' := by
  obtain ⟨i0, hi0, hz0, hz1, hz2⟩ := info_parts Tryz.infoInt
  have hbl : b < w.heap.size := World.block_lt_of_cell? _ _ h0
  have Hr : Hid (w.rowIs h 72 (hs.length * 2) (hcell hs)) := hr
  have Hh : Hid (h < w.heap.size) := hr.lt
  have HH : Hid ((Tryz.prog.info? 3 = some i0) ∧ i0.zero = some (.int .i64 0) ∧ i0.size = 1 ∧ i0.bytes = 8) := ⟨hi0, hz0, hz1, hz2⟩
  have Hn : Hid (hs.length ≤ 1024) := hH
  clear hr hi0 hz0 hz1 hz2 hH
  go_enter Tryz.func9, Tryz.ntmps9
  go_wp2_with (at_make; refine wpList_make_own _ rfl _ _ 33 rfl w.heap.size 3 i0 (.int .i64 0) 1 Tryz.underlying33 HH.out.1 HH.out.2.1 HH.out.2.2.1 .i64 .i64 (hs.length : Int) hs.length rfl rfl rfl (by have := Hn.out; rw [HH.out.2.2.2]; omega) (by have := Hn.out; simp [maxLen]; omega) (Nat.le_refl _) ?_)
  intro w1 ho hg
  have hb1 : Below w.heap.size w w1 := (Below.refl _ w).grown hg (Nat.le_refl _) (fun k e => by cases e)
  have c2 : w1.cell? ⟨b, 2, none⟩ = some (.slice (some ⟨h, 0, none⟩) hs.length hs.length) := (hb1.cell (p := ⟨b, 2, none⟩) hbl).trans h0
  have HO : Hid (w1.ownsRow w.heap.size 3 1 (.slice (some ⟨w.heap.size, 0, none⟩) 0 hs.length) 0 []) := ho
  have HB : Hid (Below w.heap.size w w1) := hb1
  clear ho hg hb1 h0
  go_wp2
  go_loopw [3, 17] (fun v i wr => ∃ (k : Nat), k ≤ hs.length ∧ i = .int .i64 k ∧ Hid (wr.ownsRow w.heap.size 3 1 v k (ints ((tolds hs).take k))) ∧ Hid (Below w.heap.size w wr)) (fun _ i _ => hs.length - (intOf i).toNat)
  case atStart => exact ⟨0, Nat.zero_le _, rfl, HO.out, HB.out⟩
  case round =>
    obtain ⟨k, hk, rfl, ho, hb⟩ := hrel
    obtain ⟨a, c, rfl⟩ := own_slice ho.out
    by_cases hlt : k < hs.length
    · have hR := Hr.out.of_block (hb.out.block h Hh.out)
      have c0 := hR.cell (i := k * 2) (by omega)
      have c1 := hR.cell (i := k * 2 + 1) (by omega)
      rw [hcell_even] at c0
      rw [hcell_odd] at c1
      have hki : (k : Int) < (hs.length : Int) := by omega
      have htk : (if hop hs k then hat hs k else -1) = (hs[k]).getD (-1) := by
        unfold hop hat
        rw [List.getElem?_eq_getElem hlt]
        cases hs[k] <;> rfl
      have hcl : hop hs k = false → hat hs k = 0 := hat_closed
      have Hx : Hid ((tolds hs).take k ++ [if hop hs k then hat hs k else -1] = (tolds hs).take (k + 1)) := by
        rw [htk]
        exact take_snoc' (by unfold tolds; rw [List.getElem?_map, List.getElem?_eq_getElem hlt]; rfl)
      have Hcl : Hid (hop hs k = false → hat hs k = 0) := hcl
      clear htk hR hcl
      generalize hop hs k = o at *
      generalize hat hs k = x at *
      go_upto_region 5 with fail
      have d0 : (wr.alloc (.cells #[.bool o, .int .i64 x] 72)).cell? ⟨wr.heap.size, 0, none⟩ = some (.bool o) := by simp
      have d1 : (wr.alloc (.cells #[.bool o, .int .i64 x] 72)).cell? ⟨wr.heap.size, 1, none⟩ = some (.int .i64 x) := by simp
      have B2 : Hid (Below w.heap.size w (wr.alloc (.cells #[.bool o, .int .i64 x] 72))) := hb.out.alloc hb.out.size _
      have O2 : Hid ((wr.alloc (.cells #[.bool o, .int .i64 x] 72)).ownsRow w.heap.size 3 1 (.slice a k c) k (ints ((tolds hs).take k))) := ho.out.alloc _
      generalize wr.alloc (.cells #[.bool o, .int .i64 x] 72) = w2 at *
      have hto := told_any o x w2 Hcl.out
      clear c0 c1 ho hb
      go_wp2_with fail
      refine hto.mono ?_
      rintro e w3 ⟨rfl, b3⟩
      have B3 : Hid (Below w.heap.size w w3) := B2.out.trans (b3.mono B2.out.size)
      have O3 : Hid (w3.ownsRow w.heap.size 3 1 (.slice a k c) k (ints ((tolds hs).take k))) := own_keep (k := 0) O2.out (fun i e => b3.block i (O2.out.lt i e).2)
      clear hto b3 B2 O2 d0 d1 Hcl
      generalize (if o = true then x else -1) = y at *
      go_wp2_with (at_builtin; refine wpList_append_own_at _ rfl _ _ 33 rfl w.heap.size 3 i0 (.int .i64 0) 1 8 Tryz.underlying33 HH.out.1 HH.out.2.1 HH.out.2.2.1 HH.out.2.2.2 rfl (by decide) _ _ _ rfl (O3.out.alloc _) ⟨w3.heap.size, 0, none⟩ 1 1 [.int .i64 y] rfl rfl (cell_one_new _ _ _) (by simp [Value.oneCell']) (by have := Hn.out; simp [maxLen]; omega) (by have := Hn.out; omega) (by have := B3.out.size; simp; omega) ?_)
      intro v' w4 ho4 hg4 _ _
      have B4 : Hid (Below w.heap.size w w4) := (B3.out.alloc B3.out.size _).grown hg4 (by have := B3.out.size; simp; omega) (fun i e => (O3.out.lt i e).1)
      have o4 : w4.ownsRow w.heap.size 3 1 v' (k + 1) (ints ((tolds hs).take (k + 1))) := by
        rw [← Hx.out]; simpa using ho4
      have O4 : Hid (w4.ownsRow w.heap.size 3 1 v' (k + 1) (ints ((tolds hs).take (k + 1)))) := o4
      have hk2 : k < 1024 := by have := Hn.out; omega
      obtain ⟨a4, c4, rfl⟩ := own_slice ho4
      clear ho4 hg4 Hx o4
      go_wp2
      go_roundw
      case rel => exact ⟨k + 1, hlt, by go_num, O4, B4⟩
      case measure => simp [intOf]; omega
    · obtain rfl : k = hs.length := by omega
      have e : (tolds hs).take hs.length = tolds hs := by rw [List.take_of_length_le]; simp [tolds]
      have ho' := ho.out
      rw [e] at ho'
      go_wp2
      go_ret
      exact ⟨_, rfl, ho', hb.out⟩

theorem handles_any (base b N : Nat) (S : Sta) (F : List Nat) (w : World) (H : Rts w base b N S F) (hO : S.Ok) :
    Calls Tryz.prog 9 #[.pointer (some ⟨b, 0, none⟩)] w fun e w' => ∃ v', e = .returned v' ∧ w'.ownsRow w.heap.size 3 1 v' S.hs.length (ints (tolds S.hs)) ∧ Below w.heap.size w w' := by
  obtain ⟨g, h, q, FQ, vs, H, rfl⟩ := H
  exact handles_walk b h S.hs w H.c2 H.hnd hO.hn

end Go.Proofs.YtdlannfjnljbcaaGreatDoor
