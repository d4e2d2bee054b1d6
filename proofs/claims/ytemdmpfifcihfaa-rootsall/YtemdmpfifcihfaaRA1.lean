import Derived.Test.YtemdmpfifcihfaaR40
/-
  The document's is, place.
-/
set_option linter.unusedVariables false
namespace Go.Proofs.Ytemdmpfifcihfaa
open Go.RowKit

set_option maxRecDepth 20000 in
theorem ris_any (base b : Nat) (t : Int) (S : Sta) (F : List Nat) (w : World) (H : Rfs w base b S F) (hO : S.Ok) :
    Calls Try.prog 73 #[.pointer (some ⟨b, 0, none⟩), .int .i64 t] w fun e w' => e = .returned (.bool (decide (0 ≤ t ∧ t < S.T))) ∧ w = w' := by
  obtain ⟨vt, vs, H, rfl⟩ := H
  have c0 := H.cell0
  obtain ⟨a, c, ev⟩ := own_slice H.thr
  rw [ev] at c0
  clear H hO ev
  by_cases h0 : t ≥ 0
  · by_cases h1 : t < (S.T : Int)
    · rw [show decide (0 ≤ t ∧ t < (S.T : Int)) = true by simp; omega]
      go_enter Try.func73, Try.ntmps73
      go_wp2
      go_ret
      exact ⟨by simp, rfl⟩
    · rw [show decide (0 ≤ t ∧ t < (S.T : Int)) = false by simp; omega]
      go_enter Try.func73, Try.ntmps73
      go_wp2
      go_ret
      exact ⟨by simp, rfl⟩
  · rw [show decide (0 ≤ t ∧ t < (S.T : Int)) = false by simp; omega]
    go_enter Try.func73, Try.ntmps73
    go_wp2
    go_ret
    exact ⟨rfl, rfl⟩

/-- A thread's two cells. -/
theorem Rf.thc {w : World} {base b : Nat} {vt : Value} {vs : Nat → Value} {S : Sta} (H : Rf w base b vt vs S) {t : Nat} (ht : t < S.T) :
    ∃ g cap, vt = .slice (some ⟨g, 0, none⟩) S.T cap ∧ w.cell? ⟨g, t * 2, none⟩ = some (vs (t * 2)) ∧ w.cell? ⟨g, t * 2 + 1, none⟩ = some (vs (t * 2 + 1)) := by
  have h := H.thr
  obtain ⟨g, cap, e, -, -⟩ := own_addr h (by omega)
  rw [e] at h
  have hc := h.cells (g := g) rfl
  refine ⟨g, cap, e, ?_, ?_⟩
  · have := hc (t * 2) (vs (t * 2)) (by rw [List.getElem?_map, List.getElem?_range (by omega)]; rfl)
    rwa [Addr.add_lit, Nat.zero_add] at this
  · have := hc (t * 2 + 1) (vs (t * 2 + 1)) (by rw [List.getElem?_map, List.getElem?_range (by omega)]; rfl)
    rwa [Addr.add_lit, Nat.zero_add] at this

theorem rrow_s (S : Sta) {t : Nat} (ht : t < S.T) : rrow S (t * 2) = S.rw (t * 2 + 1) := by
  unfold rrow
  rw [if_neg (by omega), if_neg (by omega), if_pos (by omega)]

theorem rrow_b (S : Sta) {t : Nat} (ht : t < S.T) : rrow S (t * 2 + 1) = sts (S.rw (t * 2)) := by
  unfold rrow
  rw [if_neg (by omega), if_neg (by omega), if_neg (by omega), Nat.add_sub_cancel]

theorem Rf.slots {w : World} {base b : Nat} {vt : Value} {vs : Nat → Value} {S : Sta} (H : Rf w base b vt vs S) {t : Nat} (ht : t < S.T) : w.ownsRow base 3 1 (vs (t * 2)) (S.rw (t * 2 + 1)).length (ints (S.rw (t * 2 + 1))) := by
  have := H.row (t * 2) (by omega)
  rwa [rrow_s S ht] at this

theorem Rf.starts {w : World} {base b : Nat} {vt : Value} {vs : Nat → Value} {S : Sta} (H : Rf w base b vt vs S) {t : Nat} (ht : t < S.T) : w.ownsRow base 3 1 (vs (t * 2 + 1)) (S.rw (t * 2)).length (ints (sts (S.rw (t * 2)))) := by
  have := H.row (t * 2 + 1) (by omega)
  rwa [rrow_b S ht, sts_length] at this

/-- Where the last frame begins. -/
theorem sts_last (l : List Int) (m : Int) : (sts (l ++ [m]))[l.length]? = some l.sum := by
  unfold sts
  rw [List.getElem?_map, List.getElem?_range (by simp)]
  simp

end Go.Proofs.Ytemdmpfifcihfaa

/-
  The document's place.
-/
set_option linter.unusedVariables false
namespace Go.Proofs.Ytemdmpfifcihfaa
open Go.RowKit

def Sta.placeV (S : Sta) (t i : Int) : Int := if S.slotE t i = 0 then S.slotAt t i else 0

set_option maxRecDepth 20000 in
theorem rplace_any (base b : Nat) (t i : Int) (S : Sta) (F : List Nat) (w : World) (H : Rfs w base b S F) (hO : S.Ok) (bi : -9223372036854775808 ≤ i ∧ i < 9223372036854775808) :
    Calls Try.prog 74 #[.pointer (some ⟨b, 0, none⟩), .int .i64 t, .int .i64 i] w fun e w' => e = .returned (.tuple #[.int .i64 (S.placeV t i), .int .i64 (S.slotE t i)]) ∧ Below w.heap.size w w' := by
  have his := ris_any base b t S F w H hO
  obtain ⟨vt, vs, H, rfl⟩ := H
  by_cases ht : 0 ≤ t ∧ t < (S.T : Int)
  · rw [show decide (0 ≤ t ∧ t < (S.T : Int)) = true by simpa using ht] at his
    obtain ⟨k, rfl⟩ := Int.eq_ofNat_of_zero_le ht.1
    have hk : k < S.T := by omega
    obtain ⟨g, cap, ev, x0, x1⟩ := H.thc hk
    have c0 := H.cell0
    rw [ev] at c0
    obtain ⟨a1, c1, e1⟩ := own_slice (H.slots hk)
    have hst := H.starts hk
    have hki : (k : Int) < (S.T : Int) := ht.2
    rw [e1] at x0
    rcases List.eq_nil_or_concat (S.rw (k * 2)) with hl | ⟨l, m, hl⟩
    · have es : S.slotE k i = 54 := by unfold Sta.slotE; rw [if_pos ht, if_pos (by simpa using hl)]
      have ep : S.placeV k i = 0 := by unfold Sta.placeV; rw [es]; rfl
      rw [es, ep]
      obtain ⟨a2, c2, e2⟩ := own_slice hst
      rw [e2, hl] at x1
      simp only [List.length_nil] at x1
      clear H hO hst e1 e2 ev ht es ep hl hk
      go_enter Try.func74, Try.ntmps74
      go_wp2_with fail
      refine his.mono ?_
      rintro e w1 ⟨rfl, rfl⟩
      clear his
      go_wp2
      go_ret2
      exact ⟨rfl, Below.alloc (Below.refl _ _) (Nat.le_refl _) _⟩
    · have hl : S.rw (k * 2) = l ++ [m] := by simpa using hl
      have hsum := hO.sum k hk
      have hpos := hO.pos k hk
      have hroom := hO.room k hk
      have hm2 := hO.m2
      rw [hl] at hst hsum hpos
      have hfr := hO.frames hk
      rw [hl] at hfr
      have hm1 : 1 ≤ m := hpos m (by simp)
      have hl0 := len_le_sum l (fun n hn => hpos n (by simp [hn]))
      simp only [List.sum_append, List.sum_cons, List.sum_nil, Int.add_zero] at hsum
      simp only [List.length_append, List.length_cons, List.length_nil, Nat.zero_add] at hst hfr
      have elast : S.lastOf k = m.toNat := by unfold Sta.lastOf; rw [Int.toNat_natCast, hl]; simp
      have hne : S.rw (k * 2) ≠ [] := by rw [hl]; simp
      obtain ⟨g2, cap2, e2, -, -⟩ := own_addr hst (by omega)
      rw [e2] at x1 hst
      have hc := hst.cells (g := g2) rfl l.length (.int .i64 l.sum) (by unfold ints; rw [List.getElem?_map, sts_last]; rfl)
      rw [Addr.add_lit, Nat.zero_add] at hc
      have hcA : (w.alloc (.cells #[.slice a1 (S.rw (k * 2 + 1)).length c1, .slice (some ⟨g2, 0, none⟩) (l.length + 1) cap2] 76)).cell? ⟨g2, l.length, none⟩ = some (.int .i64 l.sum) := (World.cell?_of_block (w := w) (Below.heap_alloc w _ g2 (World.block_lt_of_cell? _ _ hc))).trans hc
      have hL : (S.rw (k * 2 + 1)).length ≤ 4096 := by omega
      have hin : ∀ h : 0 ≤ i ∧ i < m, S.slotE k i = 0 ∧ S.placeV k i = l.sum + i := fun h => by
        have es : S.slotE k i = 0 := by unfold Sta.slotE; rw [if_pos ht, if_neg (by simpa using hne), if_pos (by rw [elast]; omega)]
        refine ⟨es, ?_⟩
        unfold Sta.placeV Sta.slotAt
        rw [if_pos es, elast, Int.toNat_natCast]
        omega
      have hout : ∀ h : ¬ (0 ≤ i ∧ i < m), S.slotE k i = 52 ∧ S.placeV k i = 0 := fun h => by
        have es : S.slotE k i = 52 := by unfold Sta.slotE; rw [if_pos ht, if_neg (by simpa using hne), if_neg (by rw [elast]; omega)]
        refine ⟨es, ?_⟩
        unfold Sta.placeV
        rw [es]; rfl
      clear H hO hst e1 e2 ev ht hl hk hpos hroom hm2 elast hne hc
      generalize (S.rw (k * 2 + 1)).length = L at *
      generalize l.sum = sm at *
      generalize l.length = n at *
      have hs1 : (L : Int) - sm = m := by omega
      have hn9 : (n : Int) + 1 - 1 = n := by omega
      by_cases h0 : i < 0
      · obtain ⟨es, ep⟩ := hout (by omega)
        rw [es, ep]
        clear es ep hin hout
        go_enter Try.func74, Try.ntmps74
        go_wp2_with fail
        refine his.mono ?_
        rintro e w1 ⟨rfl, rfl⟩
        clear his
        go_wp2
        go_quiet (fail)
        go_wp2
        go_ret2
        exact ⟨rfl, below_drewN (Below.alloc (Below.refl _ _) (Nat.le_refl _) _) _⟩
      · have h0' : decide (i < 0) = false := by simpa using h0
        by_cases h1 : i < m
        · obtain ⟨es, ep⟩ := hin (by omega)
          rw [es, ep]
          clear es ep hin hout
          have h2 : ¬ (i ≥ (L : Int) - sm) := by omega
          go_enter Try.func74, Try.ntmps74
          go_wp2_with fail
          refine his.mono ?_
          rintro e w1 ⟨rfl, rfl⟩
          clear his
          go_wp2
          go_quiet (fail)
          go_wp2
          go_ret2
          exact ⟨rfl, below_drewN (Below.alloc (Below.refl _ _) (Nat.le_refl _) _) _⟩
        · obtain ⟨es, ep⟩ := hout (by omega)
          rw [es, ep]
          clear es ep hin hout
          have h2 : i ≥ (L : Int) - sm := by omega
          go_enter Try.func74, Try.ntmps74
          go_wp2_with fail
          refine his.mono ?_
          rintro e w1 ⟨rfl, rfl⟩
          clear his
          go_wp2
          go_quiet (fail)
          go_wp2
          go_ret2
          exact ⟨rfl, below_drewN (Below.alloc (Below.refl _ _) (Nat.le_refl _) _) _⟩
  · rw [show decide (0 ≤ t ∧ t < (S.T : Int)) = false by simpa using ht] at his
    have es : S.slotE t i = 51 := by unfold Sta.slotE; rw [if_neg ht]
    have ep : S.placeV t i = 0 := by unfold Sta.placeV; rw [es]; rfl
    rw [es, ep]
    clear H hO ht es ep
    go_enter Try.func74, Try.ntmps74
    go_wp2_with fail
    refine his.mono ?_
    rintro e w1 ⟨rfl, rfl⟩
    clear his
    go_wp2
    go_ret2
    exact ⟨rfl, Below.refl _ _⟩

end Go.Proofs.Ytemdmpfifcihfaa

/-
  The document's Get, Set.
-/
set_option linter.unusedVariables false
namespace Go.Proofs.Ytemdmpfifcihfaa
open Go.RowKit

/-- One cell of one list is set. -/
theorem Rf.setAt {w : World} {base b : Nat} {vt : Value} {vs : Nat → Value} {S S' : Sta} (H : Rf w base b vt vs S) {j0 g n cap i : Nat} {y : Int} (hj : j0 < S.T * 2 + 2) (hT : S'.T = S.T) (hm : S'.most = S.most) (hv : vs j0 = .slice (some ⟨g, 0, none⟩) n cap)
    (h1 : rrow S' j0 = (rrow S j0).set i y) (h2 : ∀ j, j < S.T * 2 + 2 → j ≠ j0 → rrow S' j = rrow S j) :
    Rf (w.setCell ⟨g, i, none⟩ (.int .i64 y)) base b vt vs S' ∧ Touch (rfp b vt S.T vs) w (w.setCell ⟨g, i, none⟩ (.int .i64 y)) := by
  have ht : Touch [g] w (w.setCell ⟨g, i, none⟩ (.int .i64 y)) := Touch.setCell _ _ _ (by simp)
  have hg : (vs j0).ownBlock = some g := by rw [hv]; rfl
  have hr := H.row j0 hj
  have hb : b ∉ [g] := fun h => (row_ne2 H.own hr) (by rw [hg]; simpa using h)
  refine ⟨⟨H.bb, ?_, ?_, fun j hj' => ?_, ?_⟩, ht.mono (fun j hj' => .inl (mem_rfp.2 (.inr (.inr ⟨j0, hj, by rw [hg, (by simpa using hj' : j = g)]⟩))))⟩
  · rw [hT, hm]
    exact (ht.block b (heap_lt H.own) hb).trans H.own
  · rw [hT]
    exact own_keep (k := 0) H.thr (fun j e => ht.block j (H.thr.lt j e).2 (fun hm => (rows_ne H.thr hr) j e (by rw [hg, (by simpa using hm : j = g)])))
  · rw [hT] at hj'
    by_cases e : j = j0
    · subst e
      rw [h1, List.length_set]
      have hn : (rrow S j).length = n := by
        obtain ⟨a, c, e⟩ := own_slice hr
        rw [hv] at e
        simp only [Value.slice.injEq] at e
        exact e.2.1.symm
      rw [hv, hn] at hr
      rw [hv, hn]
      have h2 := own_set (i := i) hr (.int .i64 y)
      simpa [ints, List.map_set] using h2
    · rw [h2 j hj' e]
      exact own_keep (k := 0) (H.row j hj') (fun k ek => ht.block k ((H.row j hj').lt k ek).2 (fun hm => e (H.ap j j0 k hj' hj ek (by rw [hg, (by simpa using hm : k = g)]))))
  · rw [hT]
    exact H.ap

theorem slot_in {S : Sta} (hO : S.Ok) {t i : Int} (e : S.slotE t i = 0) : ∃ k j : Nat, t = k ∧ i = j ∧ k < S.T ∧ S.slotAt t i < (S.rw (k * 2 + 1)).length := by
  unfold Sta.slotE at e
  split at e
  · rename_i ht
    split at e
    · cases e
    · rename_i hne
      split at e
      · rename_i hi
        obtain ⟨k, rfl⟩ := Int.eq_ofNat_of_zero_le ht.1
        obtain ⟨j, rfl⟩ := Int.eq_ofNat_of_zero_le hi.1
        have hk : k < S.T := by omega
        refine ⟨k, j, rfl, rfl, hk, ?_⟩
        rcases List.eq_nil_or_concat (S.rw (k * 2)) with hl | ⟨l, m, hl⟩
        · exact absurd (by simpa using hl) hne
        · have hl : S.rw (k * 2) = l ++ [m] := by simpa using hl
          have hsum := hO.sum k hk
          have hpos := hO.pos k hk
          rw [hl] at hsum hpos
          have hl0 := len_le_sum l (fun n hn => hpos n (by simp [hn]))
          simp only [List.sum_append, List.sum_cons, List.sum_nil, Int.add_zero] at hsum
          have hm1 : 1 ≤ m := hpos m (by simp)
          have elast : S.lastOf k = m.toNat := by unfold Sta.lastOf; rw [Int.toNat_natCast, hl]; simp
          have h3 := hi.2
          unfold Sta.slotAt
          rw [elast, Int.toNat_natCast, Int.toNat_natCast]
          rw [elast] at h3
          omega
      · cases e
  · cases e

set_option maxRecDepth 20000 in
theorem rget_any (base b : Nat) (t i : Int) (S : Sta) (F : List Nat) (w : World) (H : Rfs w base b S F) (hO : S.Ok) (bi : -9223372036854775808 ≤ i ∧ i < 9223372036854775808) :
    Calls Try.prog 53 #[.pointer (some ⟨b, 0, none⟩), .int .i64 t, .int .i64 i] w fun e w' => e = .returned (.tuple #[.int .i64 (S.getV t i), .int .i64 (S.slotE t i)]) ∧ Below w.heap.size w w' := by
  have hpl := rplace_any base b t i S F w H hO bi
  by_cases e : S.slotE t i = 0
  · obtain ⟨k, j, rfl, rfl, hk, hs⟩ := slot_in hO e
    have ep : S.placeV k j = (S.slotAt k j : Nat) := by unfold Sta.placeV; rw [if_pos e]
    rw [ep, e] at hpl
    obtain ⟨x, hx⟩ : ∃ x, (S.rw (k * 2 + 1))[S.slotAt k j]? = some x := ⟨_, List.getElem?_eq_getElem hs⟩
    have ev : S.getV k j = x := by unfold Sta.getV; rw [if_pos e, List.getD_eq_getElem?_getD, Int.toNat_natCast, hx]; rfl
    rw [ev, e]
    have HR : Hid (Rfs w base b S F) := H
    have HX : Hid ((S.rw (k * 2 + 1))[S.slotAt k j]? = some x ∧ S.slotAt k j < (S.rw (k * 2 + 1)).length) := ⟨hx, hs⟩
    clear H ep e ev hx hs
    go_enter Try.func53, Try.ntmps53
    go_wp2_with fail
    refine hpl.mono ?_
    rintro e w1 ⟨rfl, b1⟩
    obtain ⟨vt, vs, H, -⟩ := HR.out.nil (Touch.of_below b1 _)
    obtain ⟨g, cap, ev, x0, x1⟩ := H.thc hk
    have c0 := H.cell0
    rw [ev] at c0
    have hr := H.slots hk
    obtain ⟨s, c2, e2, -, -⟩ := own_addr hr (by have := HX.out.2; omega)
    rw [e2] at x0 hr
    have hc := hr.cells (g := s) rfl (S.slotAt k j) (.int .i64 x) (by unfold ints; rw [List.getElem?_map, HX.out.1]; rfl)
    rw [Addr.add_lit, Nat.zero_add] at hc
    have hki : (k : Int) < (S.T : Int) := by omega
    have hsi : (S.slotAt k j : Int) < ((S.rw (k * 2 + 1)).length : Int) := by have := HX.out.2; omega
    clear hpl H hr ev e2 x1
    generalize S.slotAt k j = p at *
    go_wp2
    go_ret2
    exact ⟨rfl, b1⟩
  · have ev : S.getV t i = 0 := by unfold Sta.getV; rw [if_neg e]
    rw [ev]
    have ep : S.placeV t i = 0 := by unfold Sta.placeV; rw [if_neg e]
    rw [ep] at hpl
    have e' : (S.slotE t i == 0) = false := by simpa using e
    clear H ev ep e
    generalize S.slotE t i = E at *
    go_enter Try.func53, Try.ntmps53
    go_wp2_with fail
    refine hpl.mono ?_
    rintro e w1 ⟨rfl, b1⟩
    clear hpl
    go_wp2
    go_ret2
    exact ⟨rfl, b1⟩

end Go.Proofs.Ytemdmpfifcihfaa

/-
  The document's Set.
-/
set_option linter.unusedVariables false
namespace Go.Proofs.Ytemdmpfifcihfaa
open Go.RowKit

theorem Rf.setSlot {w : World} {base b : Nat} {vt : Value} {vs : Nat → Value} {S : Sta} (H : Rf w base b vt vs S) {k g n cap i : Nat} {y : Int} (hk : k < S.T) (hv : vs (k * 2) = .slice (some ⟨g, 0, none⟩) n cap) :
    Rf (w.setCell ⟨g, i, none⟩ (.int .i64 y)) base b vt vs { S with rw := upd S.rw (k * 2 + 1) ((S.rw (k * 2 + 1)).set i y) } ∧ Touch (rfp b vt S.T vs) w (w.setCell ⟨g, i, none⟩ (.int .i64 y)) := by
  refine H.setAt (j0 := k * 2) (by omega) rfl rfl hv ?_ (fun j hj hne => ?_)
  · rw [rrow_s S hk, rrow_s { S with rw := upd S.rw (k * 2 + 1) ((S.rw (k * 2 + 1)).set i y) } (show k < _ from hk)]
    exact upd_same _ _ _
  · unfold rrow
    show (if j = S.T * 2 then _ else if j = S.T * 2 + 1 then _ else if j % 2 = 0 then upd S.rw (k * 2 + 1) _ (j + 1) else sts (upd S.rw (k * 2 + 1) _ (j - 1))) = _
    by_cases e0 : j = S.T * 2
    · rw [if_pos e0, if_pos e0]
    by_cases e1 : j = S.T * 2 + 1
    · rw [if_neg e0, if_pos e1, if_neg e0, if_pos e1]
    rw [if_neg e0, if_neg e1, if_neg e0, if_neg e1]
    by_cases e2 : j % 2 = 0
    · rw [if_pos e2, if_pos e2, upd_ne _ _ (by omega)]
    · rw [if_neg e2, if_neg e2, upd_ne _ _ (by omega)]

set_option maxRecDepth 20000 in
theorem rset_any (base b : Nat) (t i x : Int) (S : Sta) (F : List Nat) (w : World) (H : Rfs w base b S F) (hO : S.Ok) (bi : -9223372036854775808 ≤ i ∧ i < 9223372036854775808) :
    Calls Try.prog 54 #[.pointer (some ⟨b, 0, none⟩), .int .i64 t, .int .i64 i, .int .i64 x] w fun e w' => e = .returned (.int .i64 (S.slotE t i)) ∧ Rfs w' base b (S.setS t i x) F ∧ Touch F w w' := by
  have hpl := rplace_any base b t i S F w H hO bi
  by_cases e : S.slotE t i = 0
  · obtain ⟨k, j, rfl, rfl, hk, hs⟩ := slot_in hO e
    have ep : S.placeV k j = (S.slotAt k j : Nat) := by unfold Sta.placeV; rw [if_pos e]
    rw [ep, e] at hpl
    have e3 : S.setS k j x = { S with rw := upd S.rw (k * 2 + 1) ((S.rw (k * 2 + 1)).set (S.slotAt k j) (adr x)) } := by unfold Sta.setS; rw [if_pos e, Int.toNat_natCast]
    obtain ⟨p, hp⟩ : ∃ p : Nat, S.slotAt k j = p := ⟨_, rfl⟩
    rw [hp] at hpl hs e3
    rw [e, e3]
    have HR : Hid (Rfs w base b S F) := H
    have HX : Hid (p < (S.rw (k * 2 + 1)).length) := hs
    clear H ep e e3 hs hp
    go_enter Try.func54, Try.ntmps54
    go_wp2_with fail
    refine hpl.mono ?_
    rintro e w1 ⟨rfl, b1⟩
    obtain ⟨vt, vs, H, eF⟩ := HR.out.nil (Touch.of_below b1 _)
    obtain ⟨g, cap, ev, x0, x1⟩ := H.thc hk
    have c0 := H.cell0
    rw [ev] at c0
    have hr := H.slots hk
    obtain ⟨s, c2, e2, -, -⟩ := own_addr hr (by have := HX.out; omega)
    rw [e2] at x0 hr
    obtain ⟨z, hz⟩ : ∃ z, (S.rw (k * 2 + 1))[p]? = some z := ⟨_, List.getElem?_eq_getElem HX.out⟩
    have hc := hr.cells (g := s) rfl (p) (.int .i64 z) (by unfold ints; rw [List.getElem?_map, hz]; rfl)
    rw [Addr.add_lit, Nat.zero_add] at hc
    have hfz : w1.frozen? ⟨s, p, none⟩ = false := own_thaw hr
    have HS : Hid (Rfs (w1.drew.setCell ⟨s, p, none⟩ (.int .i64 (adr x))) base b { S with rw := upd S.rw (k * 2 + 1) ((S.rw (k * 2 + 1)).set (p) (adr x)) } F ∧ Touch F w (w1.drew.setCell ⟨s, p, none⟩ (.int .i64 (adr x)))) := by
      have h1 : Rf w1.drew base b vt vs S := H.keep (fun _ _ => rfl)
      have h2 := h1.setSlot (i := p) (y := adr x) hk e2
      rw [eF]
      exact ⟨⟨vt, vs, h2.1, rfl⟩, ((Touch.of_below b1 _).trans (Touch.drew _ w1)).trans h2.2⟩
    have hki : (k : Int) < (S.T : Int) := by omega
    have hsi : (p : Int) < ((S.rw (k * 2 + 1)).length : Int) := by have := HX.out; omega
    have had : Calls Try.prog 75 #[.int .i64 x] w1.drew fun e w' => e = .returned (.int .i64 (adr x)) ∧ w' = w1.drew := raddress_any x _
    clear hpl H hr ev e2 x1 hz HX eF
    go_wp2_with fail
    refine quiet_tail 12 mixed (by kernel_rfl) ?_
    simp only [List.take_succ_cons, List.take_zero, List.drop_succ_cons, List.drop_zero]
    repeat (go_big_quiet_step (exact had _))
    refine wpQuiet_nil ?_
    go_wp2
    go_ret
    exact ⟨rfl, HS.out⟩
  · have e3 : S.setS t i x = S := by unfold Sta.setS; rw [if_neg e]
    rw [e3]
    have e' : (S.slotE t i == 0) = false := by simpa using e
    have HR : Hid (Rfs w base b S F) := H
    clear H e3 e
    generalize S.slotE t i = E at *
    go_enter Try.func54, Try.ntmps54
    go_wp2_with fail
    refine hpl.mono ?_
    rintro e w1 ⟨rfl, b1⟩
    have HS : Hid (Rfs w1 base b S F ∧ Touch F w w1) := ⟨HR.out.nil (Touch.of_below b1 _), Touch.of_below b1 _⟩
    clear hpl b1
    go_wp2
    go_ret
    exact ⟨rfl, HS.out⟩

end Go.Proofs.Ytemdmpfifcihfaa

/-
  The document's Frames.
-/
set_option linter.unusedVariables false
namespace Go.Proofs.Ytemdmpfifcihfaa
open Go.RowKit

theorem sts_get (l : List Int) {j : Nat} (hj : j < l.length) : (sts l)[j]? = some (l.take j).sum := by
  unfold sts
  rw [List.getElem?_map, List.getElem?_range hj]
  rfl

/-- Between two frames of Frames. -/
structure Fw (w : World) (l : List Int) (a1 : Option Addr) (L c1 : Nat) (a2 : Option Addr) (c2 : Nat) (v : Value) (j : Nat) (W : World) : Prop where
  blk : W.heap[w.heap.size]? = some (.cells #[.slice a1 L c1, .slice a2 l.length c2] 76 (0, 0))
  own : W.ownsRow w.heap.size 3 1 v j (ints (l.take j))
  be : Below w.heap.size w W

theorem Fw.app {w : World} {l : List Int} {a1 : Option Addr} {L c1 : Nat} {a2 : Option Addr} {c2 : Nat} {v v' : Value} {j : Nat} {W W' : World} {x : Int} {o : Obj} (f : Fw w l a1 L c1 a2 c2 v j W) (hx : l[j]? = some x)
    (hown : W'.ownsRow w.heap.size 3 1 v' (j + 1) (ints (l.take j) ++ [.int .i64 x])) (hgrow : (W.alloc o).grownBy W' v.ownBlock) : Fw w l a1 L c1 a2 c2 v' (j + 1) W' := by
  refine ⟨?_, ?_, (f.be.alloc f.be.size _).grown hgrow (by have := f.be.size; simp; omega) (fun i e => (f.own.lt i e).1)⟩
  · rw [hgrow.block _ (by have := heap_lt f.blk; simp; omega) (row_ne2 f.blk f.own)]
    exact (Below.heap_alloc W _ _ (heap_lt f.blk)).trans f.blk
  · rw [← take_snoc' hx]
    simpa [ints] using hown

set_option maxRecDepth 20000 in
theorem rframes_any (base b : Nat) (t : Int) (S : Sta) (F : List Nat) (w : World) (H : Rfs w base b S F) (hO : S.Ok) :
    Calls Try.prog 52 #[.pointer (some ⟨b, 0, none⟩), .int .i64 t] w fun e w' => ∃ v', e = .returned v' ∧ w'.ownsRow w.heap.size 3 1 v' (S.frames t).length (ints (S.frames t)) ∧ Below w.heap.size w w' := by
  have his := ris_any base b t S F w H hO
  obtain ⟨vt, vs, H, rfl⟩ := H
  by_cases ht : 0 ≤ t ∧ t < (S.T : Int)
  · rw [show decide (0 ≤ t ∧ t < (S.T : Int)) = true by simpa using ht] at his
    obtain ⟨k, rfl⟩ := Int.eq_ofNat_of_zero_le ht.1
    have hk : k < S.T := by omega
    obtain ⟨g, cap, ev, x0, x1⟩ := H.thc hk
    have c0 := H.cell0
    rw [ev] at c0
    obtain ⟨a1, c1, e1⟩ := own_slice (H.slots hk)
    obtain ⟨a2, c2, e2⟩ := own_slice (H.starts hk)
    have hki : (k : Int) < (S.T : Int) := ht.2
    have hst := H.starts hk
    rw [e1] at x0
    rw [e2] at x1 hst
    have efr : S.frames k = S.rw (k * 2) := by unfold Sta.frames; rw [if_pos ht, Int.toNat_natCast]
    have hsum := hO.sum k hk
    have hpos := hO.pos k hk
    have hL : (S.rw (k * 2 + 1)).length ≤ 4096 := by have h1 := hO.room k hk; have h2 := hO.m2; omega
    have hfr := hO.frames hk
    rw [efr]
    obtain ⟨i0, hi0, hz0, hz1, hz2⟩ := info_parts Try.infoInt
    have HH : Hid ((Try.prog.info? 3 = some i0) ∧ i0.zero = some (.int .i64 0) ∧ i0.size = 1 ∧ i0.bytes = 8) := ⟨hi0, hz0, hz1, hz2⟩
    obtain ⟨l, el⟩ : ∃ l, S.rw (k * 2) = l := ⟨_, rfl⟩
    obtain ⟨L, eL⟩ : ∃ L, (S.rw (k * 2 + 1)).length = L := ⟨_, rfl⟩
    rw [el] at x1 hst hsum hpos hfr
    rw [eL] at x0 hsum hL
    rw [el]
    have HS : Hid (w.ownsRow base 3 1 (.slice a2 l.length c2) l.length (ints (sts l)) ∧ l.sum = L ∧ ∀ n ∈ l, 1 ≤ n) := ⟨hst, hsum, hpos⟩
    clear H hO e1 e2 ev ht hk hst hsum hpos efr el eL hi0 hz0 hz1 hz2
    go_enter Try.func52, Try.ntmps52
    go_wp2_with fail
    refine his.mono ?_
    rintro e w1 ⟨rfl, rfl⟩
    clear his
    have F0 : Hid (Fw w l a1 L c1 a2 c2 (.slice none 0 0) 0 (w.alloc (.cells #[.slice a1 L c1, .slice a2 l.length c2] 76))) :=
      ⟨heap_alloc_new w _, World.ownsRow_nil _ _ _ _, Below.alloc (Below.refl _ _) (Nat.le_refl _) _⟩
    go_wp2
    clear c0 x0 x1
    go_loopw [7, 8] (fun v i wr => ∃ (j : Nat), j ≤ l.length ∧ i = .int .i64 j ∧ Hid (Fw w l a1 L c1 a2 c2 v j wr)) (fun _ i _ => l.length - (intOf i).toNat)
    case atStart => exact ⟨0, Nat.zero_le _, rfl, F0⟩
    case round =>
      obtain ⟨j, hj, rfl, hp⟩ := hrel
      obtain ⟨av, cv, e3⟩ := own_slice hp.out.own
      subst e3
      clear F0
      have b0 : wr.cell? ⟨w.heap.size, 0, none⟩ = some (.slice a1 L c1) := by have := heap_cell hp.out.blk 0; simpa using this
      have b1 : wr.cell? ⟨w.heap.size, 1, none⟩ = some (.slice a2 l.length c2) := by have := heap_cell hp.out.blk 1; simpa using this
      by_cases hlt : j < l.length
      · obtain ⟨x, hx⟩ : ∃ x, l[j]? = some x := ⟨_, List.getElem?_eq_getElem hlt⟩
        have hrow : wr.ownsRow base 3 1 (.slice a2 l.length c2) l.length (ints (sts l)) := own_keep (k := 0) HS.out.1 (fun i e => hp.out.be.block i (HS.out.1.lt i e).2)
        obtain ⟨g2, cap2, e4, -, -⟩ := own_addr hrow (by omega)
        simp only [Value.slice.injEq, true_and] at e4
        obtain ⟨e41, e42⟩ := e4
        subst e41
        have d1 := hrow.cells (g := g2) rfl j (.int .i64 (l.take j).sum) (by unfold ints; rw [List.getElem?_map, sts_get l hlt]; rfl)
        rw [Addr.add_lit, Nat.zero_add] at d1
        have s1 := sum_take_nn l j HS.out.2.2
        have s2 := sum_take_le l (j + 1) HS.out.2.2
        have s3 : (l.take (j + 1)).sum = (l.take j).sum + x := by rw [← take_snoc' hx]; simp
        have s4 : 1 ≤ x := HS.out.2.2 x (List.mem_of_getElem? hx)
        have s5 := HS.out.2.1
        have Hx : Hid (l[j]? = some x) := hx
        have hji : (j : Int) < (l.length : Int) := by omega
        by_cases hn : j + 1 < l.length
        · have d2 := hrow.cells (g := g2) rfl (j + 1) (.int .i64 (l.take (j + 1)).sum) (by unfold ints; rw [List.getElem?_map, sts_get l hn]; rfl)
          rw [Addr.add_lit, Nat.zero_add, s3] at d2
          have hji2 : (j : Int) + 1 < (l.length : Int) := by omega
          have q1 : (l.take j).sum ≤ 4096 := by omega
          have q2 : (l.take j).sum + x ≤ 4096 := by omega
          clear hrow e42 hx s2 s3 s5
          generalize (l.take j).sum = sm at *
          have q3 : sm + x - sm = x := by omega
          go_wp2_with (at_builtin; refine wpList_append_own_at _ rfl _ _ 31 rfl w.heap.size 3 i0 (.int .i64 0) 1 8 Try.underlying31 HH.out.1 HH.out.2.1 HH.out.2.2.1 HH.out.2.2.2 rfl (by decide) _ _ _ rfl (hp.out.own.alloc _) ⟨wr.heap.size, 0, none⟩ 1 1 [.int .i64 x] rfl rfl (cell_one_new _ _ _) (by simp [Value.oneCell']) (by simp [maxLen]; omega) (by omega) (by have := hp.out.be.size; simp; omega) ?_)
          intro v7 w7 o7 g7 _ _
          have P7 : Hid (Fw w l a1 L c1 (some ⟨g2, 0, none⟩) c2 v7 (j + 1) w7) := hp.out.app Hx.out (by simpa using o7) g7
          clear o7 g7 d1 d2 b0 b1 hp
          go_wp2
          go_roundw
          case rel => exact ⟨j + 1, hlt, by go_num, P7⟩
          case measure => simp [intOf]; omega
        · have hji2 : ¬ (j : Int) + 1 < (l.length : Int) := by omega
          have et : l.take (j + 1) = l := List.take_of_length_le (by omega)
          rw [et] at s3
          have q1 : (l.take j).sum ≤ 4096 := by omega
          have q4 : (L : Int) = (l.take j).sum + x := by omega
          clear hrow e42 hx s2 s3 s5 et
          generalize (l.take j).sum = sm at *
          have q3 : (L : Int) - sm = x := by omega
          clear q4
          go_wp2_with (at_builtin; refine wpList_append_own_at _ rfl _ _ 31 rfl w.heap.size 3 i0 (.int .i64 0) 1 8 Try.underlying31 HH.out.1 HH.out.2.1 HH.out.2.2.1 HH.out.2.2.2 rfl (by decide) _ _ _ rfl (hp.out.own.alloc _) ⟨wr.heap.size, 0, none⟩ 1 1 [.int .i64 x] rfl rfl (cell_one_new _ _ _) (by simp [Value.oneCell']) (by simp [maxLen]; omega) (by omega) (by have := hp.out.be.size; simp; omega) ?_)
          intro v7 w7 o7 g7 _ _
          have P7 : Hid (Fw w l a1 L c1 (some ⟨g2, 0, none⟩) c2 v7 (j + 1) w7) := hp.out.app Hx.out (by simpa using o7) g7
          clear o7 g7 d1 b0 b1 hp
          go_wp2
          go_roundw
          case rel => exact ⟨j + 1, hlt, by go_num, P7⟩
          case measure => simp [intOf]; omega
      · obtain rfl : j = l.length := by omega
        have hnk : ¬ (l.length : Int) < (l.length : Int) := by omega
        go_wp2
        go_ret
        exact ⟨_, rfl, by have := hp.out.own; rwa [List.take_length] at this, hp.out.be⟩
  · rw [show decide (0 ≤ t ∧ t < (S.T : Int)) = false by simpa using ht] at his
    have es : S.frames t = [] := by unfold Sta.frames; rw [if_neg ht]
    rw [es]
    clear H hO ht es
    go_enter Try.func52, Try.ntmps52
    go_wp2_with fail
    refine his.mono ?_
    rintro e w1 ⟨rfl, rfl⟩
    clear his
    go_wp2
    go_ret
    exact ⟨_, rfl, World.ownsRow_nil _ _ _ _, Below.refl _ _⟩

end Go.Proofs.Ytemdmpfifcihfaa

