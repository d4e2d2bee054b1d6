/-
  tops, sameAll.
-/
import Derived.Test.YtemdmpfifcihfaaR24
set_option linter.unusedVariables false
namespace Go.Proofs.Ytemdmpfifcihfaa
open Go.RowKit

/-- What the top frame of thread t holds. -/
def Sta.topOf (S : Sta) (t : Int) : List Int := if 0 ≤ t ∧ t < S.T ∧ S.rw (t.toNat * 2) ≠ [] then (S.rw (t.toNat * 2 + 1)).drop ((S.rw (t.toNat * 2 + 1)).length - S.lastOf t) else []

/-- The two cases of a thread. -/
theorem top_cases {S : Sta} (h : S.Ok) (t : Nat) : (S.frames t = [] ∧ S.topOf t = []) ∨ ∃ (l : List Int) (m : Nat), S.frames t = l ++ [(m : Int)] ∧ 0 < m ∧ m ≤ 4096 ∧ l.length < 4096 ∧ (S.topOf t).length = m ∧ ∀ i : Nat, i < m → S.slotE t i = 0 ∧ (S.topOf t)[i]? = some (S.getV t i) := by
  by_cases ht : (0 : Int) ≤ t ∧ (t : Int) < S.T
  · have ht2 : t < S.T := by omega
    by_cases hn : S.rw (t * 2) = []
    · refine .inl ⟨by unfold Sta.frames; rw [if_pos ht]; exact hn, ?_⟩
      unfold Sta.topOf
      rw [if_neg]
      rintro ⟨-, -, h3⟩
      exact h3 hn
    · obtain ⟨l, m, n, e1, h1, h2, h3, h4, h5⟩ := h.last ht2 hn
      have hla : S.lastOf t = m := by unfold Sta.lastOf; simp [e1]
      have et : S.topOf t = (S.rw (t * 2 + 1)).drop n := by
        unfold Sta.topOf
        rw [if_pos ⟨ht.1, ht.2, hn⟩, hla]
        show (S.rw (t * 2 + 1)).drop ((S.rw (t * 2 + 1)).length - m) = _
        rw [h2, Nat.add_sub_cancel]
      refine .inr ⟨l, m, by unfold Sta.frames; rw [if_pos ht]; exact e1, h1, by omega, by omega, by rw [et, List.length_drop, h2]; omega, fun i hi => ?_⟩
      have eE : S.slotE t i = 0 := by
        unfold Sta.slotE
        rw [if_pos ht, if_neg (show ¬ S.rw ((t : Int).toNat * 2) = [] from hn), hla, if_pos (by omega)]
      refine ⟨eE, ?_⟩
      unfold Sta.getV
      rw [if_pos eE, et, List.getElem?_drop]
      have ea : S.slotAt t i = n + i := by
        unfold Sta.slotAt
        rw [hla]
        show (S.rw (t * 2 + 1)).length - m + i = n + i
        rw [h2]; omega
      rw [ea]
      show (S.rw (t * 2 + 1))[n + i]? = some ((S.rw (t * 2 + 1)).getD (n + i) 0)
      rw [List.getD_eq_getElem?_getD, List.getElem?_eq_getElem (by omega)]
      rfl
  · refine .inl ⟨by unfold Sta.frames; rw [if_neg ht], ?_⟩
    unfold Sta.topOf
    rw [if_neg]
    rintro ⟨h1, h2, -⟩
    exact ht ⟨h1, h2⟩

/-- An element of a list that was handed out. -/
theorem Ls.get {W : World} {s u : Nat} {a : Option Addr} {n cap : Nat} {xs : List Int} (h : Ls W s u (.slice a n cap) xs) {k : Nat} {x : Int} (hx : xs[k]? = some x) : ∃ g off, a = some ⟨g, off, none⟩ ∧ W.cell? ⟨g, off + k, none⟩ = some (.int .i64 x) := by
  obtain ⟨a', cap', e, hc⟩ := is_slice h.is
  simp only [Value.slice.injEq] at e
  obtain ⟨rfl, -, -⟩ := e
  exact hc k x hx

set_option maxRecDepth 20000 in
set_option maxHeartbeats 4000000 in
theorem tops_any (base b N : Nat) (S : Sta) (F : List Nat) (w : World) (H : Rts w base b N S F) (hO : S.Ok) :
    Calls Try.prog 19 #[.pointer (some ⟨b, 0, none⟩)] w fun e w' => ∃ v, e = .returned v ∧ Fr w' w.heap.size w'.heap.size v (fun i => S.topOf i) 8 ∧ Below w.heap.size w w' := by
  obtain ⟨i0, hi0, hz0, hz1, hz2⟩ := info_parts Try.infoInts
  obtain ⟨j0, hj0, hy0, hy1, hy2⟩ := info_parts Try.infoInt
  have HH : Hid ((Try.prog.info? 31 = some i0) ∧ i0.zero = some (.slice none 0 0) ∧ i0.size = 1 ∧ i0.bytes = 24) := ⟨hi0, hz0, hz1, hz2⟩
  have HI : Hid ((Try.prog.info? 3 = some j0) ∧ j0.zero = some (.int .i64 0) ∧ j0.size = 1 ∧ j0.bytes = 8) := ⟨hj0, hy0, hy1, hy2⟩
  have HR : Hid (Rts w base b N S F) := H
  have OK : Hid S.Ok := hO
  clear hi0 hz0 hz1 hz2 hj0 hy0 hy1 hy2 H hO
  go_enter Try.func19, Try.ntmps19
  go_wp2
  go_loopw [3, 4] (fun v i wr => ∃ (t : Nat), t ≤ 8 ∧ i = .int .i64 t ∧ Hid (Fr wr w.heap.size wr.heap.size v (fun i => S.topOf i) t) ∧ Hid (Below w.heap.size w wr)) (fun _ i _ => 8 - (intOf i).toNat)
  case atStart => exact ⟨0, Nat.zero_le _, rfl, ⟨⟨[], rfl, World.ownsRow_nil _ _ _ _, fun i x hx => by simp at hx⟩, fun k e => by simp [Value.ownBlock] at e⟩, Below.refl _ _⟩
  case round =>
    obtain ⟨t, ht, rfl, hf, hb⟩ := hrel
    obtain ⟨af, cf, ef⟩ : ∃ a c, u3 = .slice a t c := by obtain ⟨fs, -, f2, -⟩ := hf.out.ex; exact own_slice f2
    subst ef
    by_cases hlt : t < 8
    · have hti : (t : Int) < 8 := by omega
      have hfr := frames_any base b N (t : Int) S F wr (HR.out.nil (Touch.of_below hb.out _)) OK.out
      go_wp2_with fail
      refine hfr.mono ?_
      rintro e w2 ⟨v2, rfl, o2, b2⟩
      have B2 : Hid (Below w.heap.size w w2) := hb.out.trans (b2.mono hb.out.size)
      have F2 : Hid (Fr w2 w.heap.size w2.heap.size (.slice af t cf) (fun i => S.topOf i) t) := by
        obtain ⟨fs, f1, f2, f3⟩ := (hf.out.below b2).ex
        exact ⟨⟨fs, f1, f2, fun i x hx => (f3 i x hx).up b2.size⟩, fun k e => Nat.lt_of_lt_of_le (hf.out.u k e) b2.size⟩
      have L2 : Hid (Ls w2 wr.heap.size w2.heap.size v2 (S.frames t)) := Ls.new o2
      have R2 : Hid (Rts w2 base b N S F) := HR.out.nil (Touch.of_below B2.out _)
      obtain ⟨a2, c2, e2⟩ := own_slice o2
      subst e2
      clear hfr o2 b2 hf hb
      rcases top_cases OK.out t with ⟨hfe, hte⟩ | ⟨l, m, hfe, hm, hm2, hl, hlen, hget⟩
      · have hz : (S.frames (t : Int)).length = 0 := by rw [hfe]; rfl
        have Hte : Hid (S.topOf t = []) := hte
        rw [hz]
        clear hfe hte hz
        go_wp2
        refine wp_loop_rounds 1 ?_
        rw [rounds_succ]
        obtain ⟨fs, f1, f2, f3⟩ := F2.out.ex
        have FF : Hid (fs.length = t ∧ w2.ownsRow w.heap.size 31 1 (.slice af t cf) t fs ∧ (∀ (i : Nat) x, fs[i]? = some x → Ls w2 w.heap.size w2.heap.size x (S.topOf i)) ∧ Ls w2 w.heap.size w2.heap.size (.slice none 0 0) (S.topOf t)) :=
          ⟨f1, f2, f3, by rw [Hte.out]; exact World.ownsRow_nil _ _ _ _, fun k e => by simp [Value.ownBlock] at e⟩
        clear f1 f2 f3 F2
        go_wp2_with (at_builtin; refine wpList_append_own_at _ rfl _ _ 41 rfl w.heap.size 31 i0 (.slice none 0 0) 1 24 Try.underlying41 HH.out.1 HH.out.2.1 HH.out.2.2.1 HH.out.2.2.2 rfl (by decide) _ _ _ rfl (FF.out.2.1.alloc _) ⟨w2.heap.size, 0, none⟩ 1 1 [.slice none 0 0] rfl rfl (cell_one_new _ _ _) (by simp [Value.oneCell']) (by simp [maxLen]; omega) (by omega) (by have := B2.out.size; simp; omega) ?_)
        intro v6 w6 o6 g6 _ _
        have F6 : Hid (Fr w6 w.heap.size w6.heap.size v6 (fun i => S.topOf i) (t + 1)) := Fr.snoc (f := fun i => S.topOf (i : Int)) FF.out.1 FF.out.2.1 FF.out.2.2.1 FF.out.2.2.2 o6 g6
        have hb6 : Hid (Below w.heap.size w w6) := (B2.out.alloc B2.out.size _).grown g6 (by have := B2.out.size; simp; omega) (fun i e => (FF.out.2.1.lt i e).1)
        obtain ⟨a6, c6, e6⟩ := own_slice o6
        subst e6
        clear o6 g6 FF B2
        go_wp2
        go_roundw
        case rel => exact ⟨t + 1, hlt, by go_num, F6, hb6⟩
        case measure => simp [intOf]; omega
      · have hlf : (S.frames (t : Int)).length = l.length + 1 := by rw [hfe]; simp
        obtain ⟨g2, o2, ea2, k2⟩ := L2.out.get (show (S.frames (t : Int))[l.length]? = some (m : Int) by rw [hfe]; simp)
        subst ea2
        have hgl : g2 < w2.heap.size := World.block_lt_of_cell? _ _ k2
        rw [hlf]
        have Hlen : Hid ((S.topOf t).length = m) := hlen
        have Hget : Hid (∀ i : Nat, i < m → S.slotE t i = 0 ∧ (S.topOf t)[i]? = some (S.getV t i)) := hget
        have hpos : (0 : Int) < (l.length : Int) + 1 := by omega
        clear hfe hlf hlen hget L2
        generalize l.length = ll at *
        go_wp2
        go_loopw [5, 7] (fun v i wq => ∃ (k : Nat), k ≤ m ∧ i = .int .i64 k ∧ Hid (Ls wq w2.heap.size wq.heap.size v ((S.topOf t).take k)) ∧ Hid (Below w2.heap.size w2 wq)) (fun _ i _ => m - (intOf i).toNat)
        case atStart => exact ⟨0, Nat.zero_le _, rfl, ⟨by rw [List.take_zero]; exact World.ownsRow_nil _ _ _ _, fun k e => by simp [Value.ownBlock] at e⟩, Below.refl _ _⟩
        case round =>
          obtain ⟨k, hk, rfl, hw, hb⟩ := hrel
          have hkl : ((S.topOf t).take k).length = k := by rw [List.length_take, Hlen.out]; omega
          obtain ⟨a5, c5, e5⟩ : ∃ a c, u5 = .slice a k c := by have := hw.out.o; rw [hkl] at this; exact own_slice this
          subst e5
          have k2' : wr.cell? ⟨g2, o2 + ll, none⟩ = some (.int .i64 m) := (hb.out.cell (p := ⟨g2, o2 + ll, none⟩) hgl).trans k2
          by_cases hlt2 : k < m
          · obtain ⟨eE, ev⟩ := Hget.out k hlt2
            have hg := get_any base b N (t : Int) (k : Int) S F wr (R2.out.nil (Touch.of_below hb.out _)) OK.out
            rw [eE] at hg
            have Hsn : Hid ((S.topOf t).take k ++ [S.getV t k] = (S.topOf t).take (k + 1)) := take_snoc' ev
            have hki : (k : Int) < (m : Int) := by omega
            clear eE ev
            generalize S.getV (t : Int) (k : Int) = x at *
            go_wp2_with fail
            refine hg.mono ?_
            rintro e w5 ⟨rfl, nq, rfl⟩
            have hw5 : Hid (Ls (wr.drewN nq) w2.heap.size wr.heap.size (.slice a5 k c5) ((S.topOf t).take k)) := hw.out.below (below_drewN (Below.refl _ _) _)
            have hb5 : Hid (Below w2.heap.size w2 (wr.drewN nq)) := below_drewN hb.out _
            have hrow : Hid ((wr.drewN nq).ownsRow w2.heap.size 3 1 (.slice a5 k c5) k (ints ((S.topOf t).take k))) := by have := hw5.out.o; rw [hkl] at this; exact this
            clear hg hw hb k2' hkl
            go_wp2_with (at_builtin; refine wpList_append_own_at _ rfl _ _ 31 rfl w2.heap.size 3 j0 (.int .i64 0) 1 8 Try.underlying31 HI.out.1 HI.out.2.1 HI.out.2.2.1 HI.out.2.2.2 rfl (by decide) _ _ _ rfl (hrow.out.alloc _) ⟨wr.heap.size, 0, none⟩ 1 1 [.int .i64 x] rfl rfl (cell_one_new _ _ _) (by simp [Value.oneCell']) (by simp [maxLen]; omega) (by omega) (by have h1 := hb5.out.size; simp at h1 ⊢; omega) ?_)
            intro v7 w7 o7 g7 _ _
            have L7 : Hid (Ls w7 w2.heap.size w7.heap.size v7 ((S.topOf t).take (k + 1))) := by
              refine Ls.new ?_
              rw [List.length_take, Hlen.out, Nat.min_eq_left (by omega), ← Hsn.out]
              simpa using o7
            have hb7 : Hid (Below w2.heap.size w2 w7) := (hb5.out.alloc hb5.out.size _).grown g7 (by have := hb5.out.size; simp at this ⊢; omega) (fun i e => (hrow.out.lt i e).1)
            obtain ⟨a7, c7, e7⟩ := own_slice o7
            subst e7
            clear o7 g7 hw5 hb5 Hsn hrow
            go_wp2
            go_roundw
            case rel => exact ⟨k + 1, hlt2, by go_num, L7, hb7⟩
            case measure => simp [intOf]; omega
          · obtain rfl : k = m := by omega
            have B3 : Hid (Below w.heap.size w wr) := B2.out.trans (hb.out.mono B2.out.size)
            have L3 : Hid (Ls wr w.heap.size wr.heap.size (.slice a5 k c5) (S.topOf t)) := by
              have := hw.out
              rw [← Hlen.out, List.take_length] at this
              rw [Hlen.out] at this
              exact this.down B2.out.size
            have FR3 := F2.out.below hb.out
            obtain ⟨fs, f1, f2, f3⟩ := FR3.ex
            have FF : Hid (fs.length = t ∧ wr.ownsRow w.heap.size 31 1 (.slice af t cf) t fs ∧ (∀ (i : Nat) x, fs[i]? = some x → Ls wr w.heap.size wr.heap.size x (S.topOf i)) ∧ Ls wr w.heap.size wr.heap.size (.slice a5 k c5) (S.topOf t)) :=
              ⟨f1, f2, fun i x hx => (f3 i x hx).up hb.out.size, L3.out⟩
            clear f1 f2 f3 F2 FR3 hw hkl
            go_wp2_with (at_builtin; refine wpList_append_own_at _ rfl _ _ 41 rfl w.heap.size 31 i0 (.slice none 0 0) 1 24 Try.underlying41 HH.out.1 HH.out.2.1 HH.out.2.2.1 HH.out.2.2.2 rfl (by decide) _ _ _ rfl (FF.out.2.1.alloc _) ⟨wr.heap.size, 0, none⟩ 1 1 [.slice a5 k c5] rfl rfl (cell_one_new _ _ _) (by simp [Value.oneCell']) (by simp [maxLen]; omega) (by omega) (by have := B3.out.size; simp; omega) ?_)
            intro v6 w6 o6 g6 _ _
            have F6 : Hid (Fr w6 w.heap.size w6.heap.size v6 (fun i => S.topOf i) (t + 1)) := Fr.snoc (f := fun i => S.topOf (i : Int)) FF.out.1 FF.out.2.1 FF.out.2.2.1 FF.out.2.2.2 o6 g6
            have hb6 : Hid (Below w.heap.size w w6) := (B3.out.alloc B3.out.size _).grown g6 (by have := B3.out.size; simp; omega) (fun i e => (FF.out.2.1.lt i e).1)
            obtain ⟨a6, c6, e6⟩ := own_slice o6
            subst e6
            clear o6 g6 FF B3 L3 hb k2'
            go_wp2
            go_roundw
            case rel => exact ⟨t + 1, hlt, by go_num, F6, hb6⟩
            case measure => simp [intOf]; omega
    · obtain rfl : t = 8 := by omega
      have hf' := hf.out
      have hb' := hb.out
      go_wp2
      go_ret
      exact ⟨_, rfl, hf', hb'⟩

set_option maxRecDepth 20000 in
set_option maxHeartbeats 1000000 in
theorem sameAll_any (va vb : Value) (f g : Nat → List Int) (s1 u1 s2 u2 : Nat) (w : World) (ha : Fr w s1 u1 va f 8) (hb : Fr w s2 u2 vb g 8) (hfg : ∀ i, i < 8 → f i = g i) (hl : ∀ i, i < 8 → (f i).length < 9223372036854775807) :
    Calls Try.prog 21 #[va, vb] w fun e w' => e = .returned (.bool true) ∧ ∃ nq, w' = w.drewN nq := by
  obtain ⟨fs, f1, f2, f3⟩ := ha.ex
  obtain ⟨gs, g1, g2, g3⟩ := hb.ex
  obtain ⟨ga, ca, rfl, -, -⟩ := own_addr f2 (by decide)
  obtain ⟨gb, cb, rfl, -, -⟩ := own_addr g2 (by decide)
  have key : ∀ k, k < 8 → ∃ xa xb, w.cell? ⟨ga, k, none⟩ = some xa ∧ w.cell? ⟨gb, k, none⟩ = some xb ∧ (∃ a n c, xa = .slice a n c) ∧ (∃ a n c, xb = .slice a n c) ∧ ∀ q, Calls Try.prog 28 #[xa, xb] (w.drewN q) fun e w' => e = .returned (.bool true) ∧ ∃ nq, w' = (w.drewN q).drewN nq := by
    intro k hk
    obtain ⟨xa, hxa⟩ : ∃ x, fs[k]? = some x := ⟨fs[k]'(by omega), List.getElem?_eq_getElem _⟩
    obtain ⟨xb, hxb⟩ : ∃ x, gs[k]? = some x := ⟨gs[k]'(by omega), List.getElem?_eq_getElem _⟩
    have la := f3 k xa hxa
    have lb := g3 k xb hxb
    obtain ⟨a1, c1, e1⟩ := own_slice la.o
    obtain ⟨a2, c2, e2⟩ := own_slice lb.o
    refine ⟨xa, xb, by rw [f2.cellAt k (by omega)]; exact hxa, by rw [g2.cellAt k (by omega)]; exact hxb, ⟨_, _, _, e1⟩, ⟨_, _, _, e2⟩, fun q => ?_⟩
    have bq := below_drewN (Below.refl w.heap.size w) q
    have := same_any xa xb (f k) (g k) (w.drewN q) (la.below bq).is (lb.below bq).is (hl k hk)
    rw [hfg k hk] at this
    simpa using this
  have Hkey : Hid (∀ k, k < 8 → ∃ xa xb, w.cell? ⟨ga, k, none⟩ = some xa ∧ w.cell? ⟨gb, k, none⟩ = some xb ∧ (∃ a n c, xa = .slice a n c) ∧ (∃ a n c, xb = .slice a n c) ∧ ∀ q, Calls Try.prog 28 #[xa, xb] (w.drewN q) fun e w' => e = .returned (.bool true) ∧ ∃ nq, w' = (w.drewN q).drewN nq) := key
  clear key f1 f2 f3 g1 g2 g3 ha hb hfg hl
  go_enter Try.func21, Try.ntmps21
  go_wp2
  go_loopw [5] (fun i wr => ∃ (k q : Nat), k ≤ 8 ∧ i = .int .i64 k ∧ wr = w.drewN q) (fun i _ => 8 - (intOf i).toNat)
  case atStart => exact ⟨0, 0, Nat.zero_le _, rfl, rfl⟩
  case round =>
    obtain ⟨k, q, hk, rfl, rfl⟩ := hrel
    by_cases hlt : k < 8
    · obtain ⟨xa, xb, k1, k2, ⟨a1, n1, c1, rfl⟩, ⟨a2, n2, c2, rfl⟩, hs⟩ := Hkey.out k hlt
      have hki : (k : Int) < 8 := by omega
      obtain ⟨wq, hwq⟩ : ∃ wq, wq = w.drewN q := ⟨_, rfl⟩
      have k1' : wq.cell? ⟨ga, k, none⟩ = some (.slice a1 n1 c1) := by rw [hwq]; exact k1
      have k2' : wq.cell? ⟨gb, k, none⟩ = some (.slice a2 n2 c2) := by rw [hwq]; exact k2
      have hs2 : ∀ n, Calls Try.prog 28 #[.slice a1 n1 c1, .slice a2 n2 c2] (wq.drewN n) fun e w' => e = .returned (.bool true) ∧ ∃ nq, w' = (wq.drewN n).drewN nq := fun n => by rw [hwq, World.drewN_drewN]; exact hs _
      rw [← hwq]
      have Hwq : Hid (wq = w.drewN q) := hwq
      clear hs k1 k2 hwq
      go_wp2
      go_quiet ((go_at_call 28; exact Calls.quiet_of (hs2 _)))
      go_wp2
      go_roundw
      case rel => exact ⟨k + 1, q + nq, hlt, by go_num, by rw [Hwq.out, World.drewN_drewN]⟩
      case measure => simp [intOf]; omega
    · obtain rfl : k = 8 := by omega
      go_wp2
      go_ret
      exact ⟨rfl, q, rfl⟩

end Go.Proofs.Ytemdmpfifcihfaa
