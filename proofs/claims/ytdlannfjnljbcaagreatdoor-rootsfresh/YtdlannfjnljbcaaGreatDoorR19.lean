/-
  each, its walk.
-/
import Derived.Test.YtdlannfjnljbcaaGreatDoorR18
set_option linter.unusedVariables false
namespace Go.Proofs.YtdlannfjnljbcaaGreatDoor
open Go.RowKit

set_option maxRecDepth 40000 in
set_option maxHeartbeats 4000000 in
theorem each_vis {dk : Nat} {r : Value} {ans : List Int → Int → Int} {J : List Nat → List Int → World → Prop} {M : Nat} (V : Vis dk r ans J M) (base b g h q N : Nat) (FQ : List Nat) (vs : Nat → Value) (S : Sta) (X : List Nat) (w : World)
    (H : Rt w base b g h q N FQ vs S) (hO : S.Ok) (hj : J X [] w) (hX : ∀ k, k ∈ fp b g h FQ S.T vs → k ∈ X) (hXw : ∀ k, k ∈ X → k < w.heap.size) (hN : N < 8796093022208) (hM : 40000 + N < M) :
    Calls Tryz.prog 27 #[.pointer (some ⟨b, 0, none⟩), .func (.func dk) #[r] #[]] w fun e w' => e = .returned (.tuple #[]) ∧ Rt w' base b g h q N FQ vs (S.vis ans) ∧ (∃ X', J X' S.all w') ∧ w.heap.size ≤ w'.heap.size := by
  have c0 := H.c0
  have HV : Hid (Vis dk r ans J M) := V
  have HO : Hid S.Ok := hO
  have HX : Hid (∀ k, k ∈ fp b g h FQ S.T vs → k ∈ X) := hX
  have HXw : Hid (∀ k, k ∈ X → k < w.heap.size) := hXw
  have HM : Hid (40000 + N < M) := hM
  have HN : Hid (N < 8796093022208) := hN
  have HE : Hid (E1 J ans w.heap.size base b g h q N FQ vs S X 0 w) := ⟨H, ⟨X, hj, fun k hk => hk⟩, Nat.le_refl _⟩
  have HT : Hid (S.T ≤ 8) := hO.T8
  clear V hO hX hXw hM hN H hj
  go_enter Tryz.func27, Tryz.ntmps27
  go_wp2
  go_loopw [15] (fun i wr => ∃ (t : Nat), t ≤ S.T ∧ i = .int .i64 t ∧ Hid (E1 J ans w.heap.size base b g h q N FQ vs S X t wr)) (fun i _ => S.T - (intOf i).toNat)
  case atStart => exact ⟨0, Nat.zero_le _, rfl, HE⟩
  case round =>
    obtain ⟨t, ht, rfl, he⟩ := hrel
    clear HE c0
    by_cases hlt : t < S.T
    · have d0 := he.out.rt.thr.cell (i := t * 2) (by show _ < S.T * 2; omega)
      have d1 := he.out.rt.thr.cell (i := t * 2 + 1) (by show _ < S.T * 2; omega)
      have r0 := he.out.rt.row (t * 2) (by show _ < S.T * 2; omega)
      have r1 := he.out.rt.row (t * 2 + 1) (by show _ < S.T * 2; omega)
      have f0 : ({ S with rw := rwT ans S t } : Sta).rw (t * 2) = S.rw (t * 2) := rwT_ge ans S t _ (by omega)
      have f1 : ({ S with rw := rwT ans S t } : Sta).rw (t * 2 + 1) = S.rw (t * 2 + 1) := rwT_ge ans S t _ (by omega)
      rw [f0] at r0
      rw [f1] at r1
      obtain ⟨a0, q0, e0⟩ := own_slice r0
      obtain ⟨a1, q1, e1⟩ := own_slice r1
      rw [e0] at d0
      rw [e1] at d1
      have Ev : Hid (vs (t * 2 + 1) = .slice a1 (S.rw (t * 2 + 1)).length q1) := e1
      have hti : (t : Int) < (S.T : Int) := by omega
      have ht8 : t < 8 := by have := HT.out; omega
      have hl : (S.rw (t * 2 + 1)).length ≤ 4096 := by have h1 := HO.out.room t hlt; have h2 := HO.out.m2; omega
      clear r0 r1 f0 f1 e0 e1
      have he2 := he.out.begin HV.out a0 a1 q0 q1
      have he2' : Hid (E2 J ans w.heap.size base b g h q N FQ vs S X t wr.heap.size a0 a1 q0 q1 0 (wr.alloc (.cells #[.slice a0 (S.rw (t * 2)).length q0, .slice a1 (S.rw (t * 2 + 1)).length q1] 84))) := he2
      have hBX : Hid (∀ k, k ∈ X → k < wr.heap.size) := fun k hk => Nat.lt_of_lt_of_le (HXw.out k hk) he.out.sz
      clear he2
      go_upto_region 3 with fail
      clear d0 d1 he
      generalize wr.alloc (.cells #[.slice a0 (S.rw (t * 2)).length q0, .slice a1 (S.rw (t * 2 + 1)).length q1] 84) = w2 at *
      generalize wr.heap.size = B at *
      have x1 : w2.cell? ⟨B, 1, none⟩ = some (.slice a1 (S.rw (t * 2 + 1)).length q1) := by
        have := heap_cell he2'.out.box 1; simpa using this
      go_wp2
      clear x1
      go_loopw [22] (fun i w3 => ∃ (k : Nat), k ≤ (S.rw (t * 2 + 1)).length ∧ i = .int .i64 k ∧ Hid (E2 J ans w.heap.size base b g h q N FQ vs S X t B a0 a1 q0 q1 k w3)) (fun i _ => (S.rw (t * 2 + 1)).length - (intOf i).toNat)
      case atStart => exact ⟨0, Nat.zero_le _, rfl, he2'⟩
      case round =>
        obtain ⟨k, hk, rfl, he3⟩ := hrel
        clear he2'
        by_cases hkl : k < (S.rw (t * 2 + 1)).length
        · obtain ⟨x, hx⟩ : ∃ x, (S.rw (t * 2 + 1))[k]? = some x := ⟨_, List.getElem?_eq_getElem hkl⟩
          have rr := he3.out.rt.row (t * 2 + 1) (by show _ < S.T * 2; omega)
          have ei : ({ S with rw := upd (rwT ans S t) (t * 2 + 1) (midl ans (preT S t) (S.rw (t * 2 + 1)) k) } : Sta).rw (t * 2 + 1) = midl ans (preT S t) (S.rw (t * 2 + 1)) k := upd_same _ _ _
          rw [ei, midl_length _ _ _ _ (by omega)] at rr
          obtain ⟨s, d, es, -, -⟩ := own_addr rr (by omega)
          rw [Ev.out] at es
          simp only [Value.slice.injEq, true_and] at es
          obtain ⟨rfl, rfl⟩ := es
          have hBs : B ≠ s := fun e => by
            have hs : s ∈ X := HX.out s (mem_fp.2 (.inr (.inr (.inr (.inr ⟨t * 2 + 1, by omega, by rw [Ev.out]; rfl⟩)))))
            have := hBX.out s hs
            omega
          obtain ⟨y, hro, hcx⟩ := he3.out.step HV.out hlt HO.out HX.out Ev.out hx (by have := HM.out; omega) hBs
          have x1 : wr.cell? ⟨B, 1, none⟩ = some (.slice (some ⟨s, 0, none⟩) (S.rw (t * 2 + 1)).length q1) := by
            have := heap_cell he3.out.box 1; simpa using this
          have hki : (k : Int) < ((S.rw (t * 2 + 1)).length : Int) := by omega
          clear hx rr ei he3
          go_wp2_with fail
          go_region_with (go_at_call 57; refine hro.mono ?_; rintro e w5 ⟨rfl, m1, m2, m3, m4⟩; have M4 : Hid (E2 J ans w.heap.size base b g h q N FQ vs S X t B a0 (some ⟨s, 0, none⟩) q0 q1 (k + 1) (w5.setCell ⟨s, k, none⟩ (.int .i64 y))) := m4; clear m4 hcx x1)
          all_goals
            go_wp2
            go_roundw
            case rel => exact ⟨k + 1, hkl, by go_num, M4⟩
            case measure => simp [intOf]; omega
        · obtain rfl : k = (S.rw (t * 2 + 1)).length := by omega
          have he4 : Hid (E1 J ans w.heap.size base b g h q N FQ vs S X (t + 1) wr) := he3.out.finish
          clear he3
          go_wp2
          go_roundw
          case rel => exact ⟨t + 1, hlt, by go_num, he4⟩
          case measure => simp [intOf]; omega
    · obtain rfl : t = S.T := by omega
      have he3 : Hid (E3 J ans w.heap.size base b g h q N FQ vs S X 0 wr) := by
        obtain ⟨X', hj, hX'⟩ := he.out.j
        exact ⟨by rw [hmid_zero]; exact he.out.rt, ⟨X', by simpa [hnz, nz] using hj, hX'⟩, he.out.sz⟩
      have b2 := he.out.rt.c2
      have hh4 : S.hs.length ≤ 1024 := HO.out.hn
      clear he
      go_wp2
      clear b2
      go_loopw [41] (fun i wr => ∃ (k : Nat), k ≤ S.hs.length ∧ i = .int .i64 k ∧ Hid (E3 J ans w.heap.size base b g h q N FQ vs S X k wr)) (fun i _ => S.hs.length - (intOf i).toNat)
      case atStart => exact ⟨0, Nat.zero_le _, rfl, he3⟩
      case round =>
        obtain ⟨k, hk, rfl, he4⟩ := hrel
        clear he3
        by_cases hkl : k < S.hs.length
        · obtain ⟨o, hx⟩ : ∃ o, S.hs[k]? = some o := ⟨_, List.getElem?_eq_getElem hkl⟩
          have hXw2 : ∀ k, k ∈ X → k < wr.heap.size := fun k hk => Nat.lt_of_lt_of_le (HXw.out k hk) he4.out.sz
          obtain ⟨y, hro, k0, k1, k2⟩ := he4.out.step HV.out HO.out HX.out hx (by have := HM.out; omega) hXw2
          have hbl : b < wr.heap.size := hXw2 b (HX.out b (by simp [mem_fp]))
          have hhl : h < wr.heap.size := hXw2 h (HX.out h (by simp [mem_fp]))
          have hki : (k : Int) < (S.hs.length : Int) := by omega
          generalize o.isSome = ob at *
          generalize o.getD 0 = x at *
          have n2 : (wr.alloc (.cells #[.bool ob, .int .i64 x] 72)).cell? ⟨b, 2, none⟩ = some (.slice (some ⟨h, 0, none⟩) S.hs.length S.hs.length) := (World.cell?_of_block (w := wr) (Below.heap_alloc wr _ b hbl)).trans k2
          have n1 : (wr.alloc (.cells #[.bool ob, .int .i64 x] 72)).cell? ⟨wr.heap.size, 1, none⟩ = some (.int .i64 x) := by simp
          clear hx he4 hXw2
          go_upto_region 12 with fail
          clear k0 k1 k2 hbl hhl
          generalize wr.alloc (.cells #[.bool ob, .int .i64 x] 72) = w2 at *
          generalize wr.heap.size = B at *
          go_region_with (go_at_call 57; refine hro.mono ?_; rintro e w5 ⟨rfl, m0, m1, m2, m3, m4⟩; have M4 : Hid (E3 J ans w.heap.size base b g h q N FQ vs S X (k + 1) (w5.setCell ⟨h, k * 2 + 1, none⟩ (.int .i64 y))) := m4; clear m4 n1 n2)
          all_goals
            go_wp2
            go_roundw
            case rel => exact ⟨k + 1, hkl, by go_num, M4⟩
            case measure => simp [intOf]; omega
        · obtain rfl : k = S.hs.length := by omega
          have hR := he4.out.rt
          obtain ⟨X', hj, hX'⟩ := he4.out.j
          have b3 := hR.c3
          have hqv := que_vis HV.out base q N S.qs FQ X' _ wr hR.que hj (fun k hk => hX' k (HX.out k (by simp [mem_fp, hk]))) HN.out HO.out.q0 (by
            have h1 := preT_len HO.out S.T (Nat.le_refl _)
            have h2 := hnz_len (S.hs.take S.hs.length)
            have h3 := HT.out
            have h5 := HM.out
            simp at h2 ⊢
            omega)
          have HR : Hid (Rt wr base b g h q N FQ vs { S with rw := rwT ans S S.T, hs := hmid ans (preT S S.T) S.hs S.hs.length }) := hR
          have HX' : Hid (∀ k, k ∈ X → k ∈ X') := hX'
          have Hsz : Hid (w.heap.size ≤ wr.heap.size) := he4.out.sz
          clear hR hj hX' he4
          go_wp2_with fail
          refine hqv.mono ?_
          rintro e w5 ⟨rfl, hq5, hJ5, hX5, hs5⟩
          clear hqv b3
          have HF : Hid (Rt w5 base b g h q N FQ vs (S.vis ans) ∧ (∃ X', J X' S.all w5) ∧ w.heap.size ≤ w5.heap.size) := by
            refine ⟨?_, ⟨X', ?_⟩, Nat.le_trans Hsz.out hs5⟩
            · have := HR.out.setQueIn (fun k hk hn => hX5 k (HX'.out k (HX.out k hk)) hn) hq5
              rw [List.take_length] at this
              simp only [hmid_all] at this
              exact this
            · rw [List.take_length] at hJ5
              exact hJ5
          clear hq5 hJ5 hX5 hs5
          go_wp2
          go_end0
          exact ⟨rfl, HF.out⟩

end Go.Proofs.YtdlannfjnljbcaaGreatDoor
