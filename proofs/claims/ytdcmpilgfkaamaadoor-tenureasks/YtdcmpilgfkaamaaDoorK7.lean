/-
  growInts.
-/
import Derived.Test.YtdcmpilgfkaamaaDoorK6
set_option linter.unusedVariables false
set_option maxRecDepth 20000
namespace Go.Proofs.YtdcmpilgfkaamaaDoor
open Go.RowKit

/-- What is laid on behind a list: i numbers. -/
def lay (m : Int) (i : Nat) : List Int := (List.range i).map fun (j : Nat) => m + 6 + 5 * (j : Int)

theorem lay_succ (m : Int) (i : Nat) : lay m (i + 1) = lay m i ++ [m + 6 + 5 * (i : Int)] := by simp [lay, List.range_succ]

@[simp] theorem lay_length (m : Int) (i : Nat) : (lay m i).length = i := by simp [lay]

/-- The lists that were written full and not laid on yet. -/
structure Frs (w : World) (K : List Nat) (A : List Value) (ms : List Int) : Prop where
  len : A.length = ms.length
  at_ : ∀ (i : Nat) v, A[i]? = some v → ∃ l m, ms[i]? = some m ∧ 0 ≤ m ∧ m ≤ 100000 ∧ Rd w K v (ints l) ∧ v = .slice (v.ownBlock.map fun g => ⟨g, 0, none⟩) l.length l.length ∧ l.length ≤ 16

theorem Ex.frs {w w' : World} {base b : Nat} {f f' : Nat → Value} {xs : Nat → List Value} {K K' : List Nat} (h : Ex w w' b f f' K K') (hi : Iv w base b f xs K) {A : List Value} {ms : List Int} (hp : Frs w K A ms) : Frs w' K' A ms :=
  ⟨hp.len, fun i v hv => by
    obtain ⟨l, m, h1, h2, h3, h4, h5, h6⟩ := hp.at_ i v hv
    exact ⟨l, m, h1, h2, h3, h.rd hi h4, h5, h6⟩⟩

theorem ownsRow_some {w : World} {base n e s : Nat} {v : Value} {xs : List Value} (h : w.ownsRow base e s v n xs) (hn : 0 < n) : ∃ g cap, v = .slice (some ⟨g, 0, none⟩) n cap := by
  rcases h.2 with ⟨_, h0⟩ | ⟨g, cap, cur, rfl, _⟩
  · omega
  · exact ⟨g, cap, rfl⟩

theorem ints_one (l : List Int) : ∀ u ∈ ints l, u.oneCell' = true := by
  intro u hu
  obtain ⟨x, _, rfl⟩ := List.mem_map.1 hu
  rfl

/-- A copy that was laid, and its slice that was appended. -/
theorem copy_ex {W w1 w2 : World} {base b : Nat} {f : Nat → Value} {xs : Nat → List Value} {K : List Nat} (h : Iv W base b f xs K) (j : Nat) (h1 : 13 ≤ j) (h2 : j ≤ 17) {v v' : Value} {ug n uc : Nat} {l : List Int} (ej : f j = v) (ht : Touch [] W w1)
    (hu : w1.ownsRow W.heap.size 3 1 (.slice (some ⟨ug, 0, none⟩) n uc) n (ints l)) (ho : w2.ownsRow base 29 1 v' ((xs j).length + 1) (xs j ++ [.slice (some ⟨ug, 0, none⟩) n uc]))
    (hg : (w1.alloc (.cells #[.slice (some ⟨ug, 0, none⟩) n uc] 29)).grownBy w2 v.ownBlock) (hat : v'.ownBlock = v.ownBlock ∨ v'.ownBlock = some (w1.alloc (.cells #[.slice (some ⟨ug, 0, none⟩) n uc] 29)).heap.size) :
    Iv (w2.setCell ⟨b, j, none⟩ v') base b (put f j v') (putl xs j (xs j ++ [.slice (some ⟨ug, 0, none⟩) n uc])) (ug :: K) ∧ Ex W (w2.setCell ⟨b, j, none⟩ v') b f (put f j v') K (ug :: K) ∧ Rd (w2.setCell ⟨b, j, none⟩ v') (ug :: K) (.slice (some ⟨ug, 0, none⟩) n uc) (ints l) := by
  subst ej
  have hul := hu.lt ug rfl
  have hb1 : Below W.heap.size W w1 := ht.below (Nat.le_refl _) (fun k hk => by cases hk)
  have hbb : base ≤ W.heap.size := by have := h.lo; have := h.bk.lt; omega
  have hV1 : Iv w1 base b f xs (ug :: K) := (h.nil hb1).more (by omega) hul.2 (fun ho => by have := (h.ownLt ho).2; omega)
  have hE1 : Ex W w1 b f f K (ug :: K) := Ex.keepMore ug hul.1 (Ex.below hb1)
  obtain ⟨q1, q2⟩ := hV1.appEx j h1 (by omega) _ v' (by rw [show ty j = 29 by unfold ty; rw [if_pos h2]]; exact ho) ((Touch.alloc _ _ _).trans (Touch.grown hg (fun k hk => by simp [hk]))) (by
    rcases hat with e | e
    · exact .inl e
    · exact .inr ⟨_, e, by simp⟩)
  have hn : n = (ints l).length := by have := hu.1; omega
  have hr1 : Rd w1 (ug :: K) (.slice (some ⟨ug, 0, none⟩) n uc) (ints l) := ⟨ug, uc, by rw [hn], by simp, fun i x hi => by
    obtain ⟨g9, c9, e9, h9⟩ := row_val hu i x hi
    simp only [Value.slice.injEq, Option.some.injEq, Addr.mk.injEq, true_and, and_true] at e9
    obtain ⟨rfl, rfl⟩ := e9
    exact h9⟩
  exact ⟨q1, hE1.trans q2, q2.rd hV1 hr1⟩

set_option maxHeartbeats 8000000 in
theorem growInts_any {w : World} {base b : Nat} {f : Nat → Value} {xs : Nat → List Value} {K : List Nat} {ms : List Int} (h : Iv w base b f xs K) (hbase : base ≤ w.heap.size) (h1 : Prs w K (xs 13) (xs 14)) (hF : Frs w K (xs 17) ms) (hM : xs 20 = ints ms) (n1 : (xs 13).length + (xs 17).length < 1000000) (n2 : (xs 17).length < 1000000) :
    Calls Tryd.prog 68 #[.pointer (some ⟨b, 0, none⟩)] w fun e w' => e = .returned (.tuple #[]) ∧ ∃ f' xs' K', Iv w' base b f' xs' K' ∧ Prs w' K' (xs' 13) (xs' 14) ∧ Ex w w' b f f' K K' ∧ (xs' 13).length = (xs 13).length + (xs 17).length ∧ xs' 17 = [] ∧ xs' 20 = [] ∧ (∀ j, j ≠ 13 → j ≠ 14 → j ≠ 17 → j ≠ 20 → f' j = f j ∧ xs' j = xs j) ∧ (∀ v, v ∈ xs' 13 ++ xs' 14 → v ∈ xs 13 ++ xs 14 ∨ ∃ q, v.ownBlock = some q ∧ w.heap.size ≤ q) := by
  obtain ⟨i0, i1, hI⟩ := inf_ex
  have HI : Hid (Inf i0 i1) := hI
  have HF : Hid (Frs w K (xs 17) ms) := hF
  have HM : Hid (xs 20 = ints ms) := hM
  have HV : Hid (Iv w base b f xs K) := h
  have HP : Hid (Prs w K (xs 13) (xs 14)) := h1
  have hml : ms.length = (xs 17).length := hF.len.symm
  obtain ⟨a17, p17, e17⟩ := row_sl (h.own 17 (by decide) (by decide))
  obtain ⟨a20, p20, e20⟩ := row_sl (h.own 20 (by decide) (by decide))
  rw [hM, show (ints ms).length = ms.length by simp [ints], hml] at e20
  have E17 : Hid (f 17 = .slice a17 (xs 17).length p17) := e17
  have E20 : Hid (f 20 = .slice a20 (xs 17).length p20) := e20
  have HBs : Hid (base ≤ w.heap.size) := hbase
  clear h h1 hF hM hI e17 e20 hbase hml
  go_enter Tryd.func68, Tryd.ntmps68
  go_wp2
  go_loopw [2] (fun i wr => ∃ k : Nat, k ≤ (xs 17).length ∧ i = .int .i64 k ∧ (∃ f1 xs1 K1, Iv wr base b f1 xs1 K1 ∧ Prs wr K1 (xs1 13) (xs1 14) ∧ Ex w wr b f f1 K K1 ∧ (xs1 13).length = (xs 13).length + k ∧ (∀ j, j ≠ 13 → j ≠ 14 → f1 j = f j ∧ xs1 j = xs j) ∧ (∀ v, v ∈ xs1 13 ++ xs1 14 → v ∈ xs 13 ++ xs 14 ∨ ∃ q, v.ownBlock = some q ∧ w.heap.size ≤ q))) (fun i _ => (xs 17).length - (intOf i).toNat)
  case atStart => exact ⟨0, Nat.zero_le _, rfl, f, xs, K, HV.out, HP.out, Ex.refl _ _ _ _, rfl, fun j _ _ => ⟨rfl, rfl⟩, fun v hv => .inl hv⟩
  case round =>
    obtain ⟨k, hk, rfl, f1, xs1, K1, hV1, hP1, hE1, hl1, hS1, hN1⟩ := hrel
    have c17 := hV1.bk.cell 17
    have c20 := hV1.bk.cell 20
    rw [(hS1 17 (by decide) (by decide)).1, E17.out] at c17
    rw [(hS1 20 (by decide) (by decide)).1, E20.out] at c20
    have HV1 : Hid (Iv wr base b f1 xs1 K1) := hV1
    have HP1 : Hid (Prs wr K1 (xs1 13) (xs1 14)) := hP1
    have HE1 : Hid (Ex w wr b f f1 K K1) := hE1
    have HS1 : Hid ((xs1 13).length = (xs 13).length + k ∧ ∀ j, j ≠ 13 → j ≠ 14 → f1 j = f j ∧ xs1 j = xs j) := ⟨hl1, hS1⟩
    have HN1 : Hid (∀ v, v ∈ xs1 13 ++ xs1 14 → v ∈ xs 13 ++ xs 14 ∨ ∃ q, v.ownBlock = some q ∧ w.heap.size ≤ q) := hN1
    have HSz : Hid (w.heap.size ≤ wr.heap.size) := by obtain ⟨G, q1, _⟩ := hE1.t; exact q1.size
    clear hN1
    have hbr : base ≤ wr.heap.size := by obtain ⟨G, q1, _⟩ := hE1.t; have := HBs.out; have := q1.size; omega
    have HBr : Hid (base ≤ wr.heap.size) := hbr
    have HFr : Hid (Frs wr K1 (xs 17) ms) := hE1.frs HV.out HF.out
    clear hV1 hP1 hE1 hl1 hS1 hbr
    by_cases hlt : k < (xs 17).length
    · obtain ⟨v, hv⟩ : ∃ v, (xs 17)[k]? = some v := ⟨_, List.getElem?_eq_getElem hlt⟩
      obtain ⟨l, m, hm, hm0, hm1, hrd, hve, hl16⟩ := HFr.out.at_ k v hv
      have hr17 := HV1.out.own 17 (by decide) (by decide)
      rw [(HS1.out.2 17 (by decide) (by decide)).1, (HS1.out.2 17 (by decide) (by decide)).2, E17.out] at hr17
      have hr20 := HV1.out.own 20 (by decide) (by decide)
      rw [(HS1.out.2 20 (by decide) (by decide)).1, (HS1.out.2 20 (by decide) (by decide)).2, E20.out, HM.out] at hr20
      obtain ⟨g, cap, e1, c1⟩ := row_val hr17 k v hv
      obtain ⟨g2, cap2, e2, c2⟩ := row_val hr20 k (.int .i64 m) (by simp [ints, hm])
      simp only [Value.slice.injEq, true_and] at e1 e2
      obtain ⟨rfl, rfl⟩ := e1
      obtain ⟨rfl, hx9, rfl⟩ := e2
      clear hx9
      have hki : (k : Int) < (xs 17).length := by omega
      obtain ⟨gv, cv, ev, hgK, hcv⟩ := hrd
      rw [show (ints l).length = l.length by simp [ints]] at ev
      rw [ev] at hve
      simp only [Value.ownBlock, Option.map_some, Value.slice.injEq, true_and] at hve
      subst hve
      subst ev
      have HC : Hid (∀ (j : Nat) x, (ints l)[j]? = some x → wr.cell? ⟨gv, j, none⟩ = some x) := hcv
      have HL : Hid (l.length ≤ 16 ∧ gv ∈ K1) := ⟨hl16, hgK⟩
      clear hr17 hr20 hv hm hcv hgK
      go_upto_region 6 with fail
      obtain ⟨w0, hw0⟩ : ∃ w0, w0 = wr := ⟨_, rfl⟩
      subst hw0
      go_loopw [4, 5] (fun gl0 i wr2 => ∃ gl, gl = gl0 ∧ ∃ q : Nat, q ≤ 30 ∧ i = .int .i64 q ∧ ((q = 0 ∧ gl = .slice (some ⟨gv, 0, none⟩) l.length l.length ∧ w0 = wr2) ∨ (1 ≤ q ∧ wr2.ownsRow w0.heap.size 3 1 gl (l.length + q) (ints (l ++ lay m q)) ∧ Below w0.heap.size w0 wr2))) (fun _ i _ => 30 - (intOf i).toNat)
      case atStart => exact ⟨_, rfl, 0, by omega, rfl, .inl ⟨rfl, rfl, rfl⟩⟩
      case round =>
        obtain ⟨gl, hgl, q, hq, rfl, hcase⟩ := hrel
        subst hgl
        have hl16 := HL.out.1
        by_cases hq30 : q < 30
        · have hqi : (q : Int) < 30 := by omega
          rcases hcase with ⟨rfl, rfl, rfl⟩ | ⟨hq1, hown, hbel⟩
          · clear c17 c20 c1 c2
            go_wp2_with (at_builtin; refine wpList_append_grows _ rfl _ _ 29 rfl 3 i0 (.int .i64 0) 1 8 Tryd.underlying29 HI.out.a0 HI.out.a1 HI.out.a2 HI.out.a3 rfl (by decide) (some ⟨gv, 0, none⟩) l.length l.length (ints l) rfl (fun h => by cases h) (by simp) (fun b hb j u hj => by cases hb; rw [Addr.add_mid, Nat.zero_add]; exact Lib.cell?_alloc_some _ (HC.out j u hj)) ⟨w0.heap.size, 0, none⟩ 1 1 [.int .i64 (m + 6)] rfl rfl (cell_one_new _ _ _) (by simp [Value.oneCell']) (by omega) (by simp [maxLen]; omega) (by omega) ?_)
            intro v' w1 hown' hgrow
            have HB1 : Hid (Below w0.heap.size w0 w1) := ((Touch.alloc [] w0 _).trans (Touch.grown hgrow (fun j hj => by cases hj))).below (Nat.le_refl _) (fun k hk => by cases hk)
            have ho1 : w1.ownsRow w0.heap.size 3 1 v' (l.length + 1) (ints (l ++ lay m 1)) := by
              refine row_base (base := w0.heap.size + 1) ?_ (by omega)
              simpa [ints, lay] using hown'
            have HO1 : Hid (w1.ownsRow w0.heap.size 3 1 v' (l.length + 1) (ints (l ++ lay m 1))) := ho1
            obtain ⟨gg, cc, rfl⟩ := row_sl ho1
            clear hown' hgrow ho1
            go_wp2
            go_roundw
            case rel => exact ⟨_, rfl, 1, by omega, by go_num, .inr ⟨Nat.le_refl _, HO1.out, HB1.out⟩⟩
            case measure => simp [intOf]
          · clear c17 c20 c1 c2
            have HO : Hid (wr.ownsRow w0.heap.size 3 1 gl (l.length + q) (ints (l ++ lay m q))) := hown
            have HB : Hid (Below w0.heap.size w0 wr) := hbel
            obtain ⟨ga, gc, rfl⟩ := row_sl hown
            clear hown hbel
            go_wp2_with (at_builtin; refine wpList_append_own_at _ rfl _ _ 29 rfl w0.heap.size 3 i0 (.int .i64 0) 1 8 Tryd.underlying29 HI.out.a0 HI.out.a1 HI.out.a2 HI.out.a3 rfl (by decide) _ _ _ rfl (HO.out.alloc _) ⟨wr.heap.size, 0, none⟩ 1 1 [.int .i64 (m + 6 + 5 * (q : Int))] rfl rfl (cell_one_new _ _ _) (by simp [Value.oneCell']) (by simp [maxLen]; omega) (by omega) (by have := HB.out.size; simp; omega) ?_)
            intro v' w1 hown' hgrow _ hat
            have HB1 : Hid (Below w0.heap.size w0 w1) := HB.out.trans (((Touch.alloc (Value.slice ga (l.length + q) gc).ownBlock.toList wr _).trans (Touch.grown hgrow (fun j hj => by simp [hj]))).below HB.out.size (fun k hk => (HO.out.lt k (by simpa using hk)).1))
            have ho1 : w1.ownsRow w0.heap.size 3 1 v' (l.length + (q + 1)) (ints (l ++ lay m (q + 1))) := by
              rw [lay_succ]
              simpa [ints, Nat.add_assoc] using hown'
            have HO1 : Hid (w1.ownsRow w0.heap.size 3 1 v' (l.length + (q + 1)) (ints (l ++ lay m (q + 1)))) := ho1
            obtain ⟨gg, cc, rfl⟩ := row_sl ho1
            clear hown' hgrow ho1 hat
            go_wp2
            go_roundw
            case rel => exact ⟨_, rfl, q + 1, by omega, by go_num, .inr ⟨by omega, HO1.out, HB1.out⟩⟩
            case measure => simp [intOf]; omega
        · obtain rfl : q = 30 := by omega
          obtain ⟨hq1, hown, hbel⟩ := hcase.resolve_left (by omega)
          have HO : Hid (wr.ownsRow w0.heap.size 3 1 gl (l.length + 30) (ints (l ++ lay m 30))) := hown
          have HB : Hid (Below w0.heap.size w0 wr) := hbel
          obtain ⟨gg, gc, rfl⟩ := ownsRow_some hown (by omega)
          have hgg := (hown.lt gg rfl)
          have HV2 : Hid (Iv wr base b f1 xs1 (gg :: K1)) := (HV1.out.nil hbel).more (by have := HV1.out.lo; have := HV1.out.bk.lt; omega) hgg.2 (fun ho => by have := (HV1.out.ownLt ho).2; omega)
          have HE2 : Hid (Ex w0 wr b f1 f1 K1 (gg :: K1)) := Ex.keepMore gg hgg.1 (Ex.below hbel)
          have HRd : Hid (Rd wr (gg :: K1) (.slice (some ⟨gg, 0, none⟩) (l.length + 30) gc) (ints (l ++ lay m 30))) := ⟨gg, gc, by simp [ints], by simp, fun j x hj => by
            obtain ⟨g9, c9, e9, h9⟩ := row_val hown j x hj
            simp only [Value.slice.injEq, Option.some.injEq, Addr.mk.injEq, true_and, and_true] at e9
            obtain ⟨rfl, rfl⟩ := e9
            exact h9⟩
          have Hgg : Hid (w0.heap.size ≤ gg ∧ w0.heap.size ≤ wr.heap.size) := ⟨hgg.1, hbel.size⟩
          clear hown hbel hcase hgg c17 c20 c1 c2
          go_upto_region 9 with fail
          go_cut [] from 41 to 50 (fun wc => ∃ v', Iv wc base b (put (f1) 13 v') (putl (xs1) 13 ((xs1) 13 ++ [.slice (some ⟨gg, 0, none⟩) (l.length + 30) gc])) (gg :: K1) ∧ Ex wr wc b (f1) (put (f1) 13 v') (gg :: K1) (gg :: K1))
          case first =>
            obtain ⟨aj, pj, ej⟩ := row_sl (HV2.out.own 13 (by decide) (by decide))
            have cj := HV2.out.bk.cell 13
            rw [ej] at cj
            have hrow := HV2.out.own 13 (by decide) (by decide)
            rw [ej] at hrow
            have Ej : Hid ((f1) 13 = .slice aj ((xs1) 13).length pj) := ej
            have Hrow : Hid (wr.ownsRow base 29 1 (.slice aj ((xs1) 13).length pj) ((xs1) 13).length ((xs1) 13)) := hrow
            have hnj : ((xs1) 13).length < 1000000 := by have := HS1.out.1; omega
            clear ej hrow 
            go_wp2_with (at_builtin; refine wpList_append_own_at _ rfl _ _ 30 rfl base 29 i1 (.slice none 0 0) 1 24 Tryd.underlying30 HI.out.b0 HI.out.b1 HI.out.b2 HI.out.b3 rfl (by decide) _ _ _ rfl (Hrow.out.alloc _) ⟨wr.heap.size, 0, none⟩ 1 1 [.slice (some ⟨gg, 0, none⟩) (l.length + 30) gc] rfl rfl (cell_one_new _ _ _) (by simp [Value.oneCell']) (by simp [maxLen]; omega) (by omega) (by have := HV2.out.lo; have := HV2.out.bk.lt; simp; omega) ?_)
            intro v' w1 hown' hgrow _ hat
            have hbk1 := grow_bk hgrow HV2.out.bk (by rw [← Ej.out]; exact HV2.out.rb 13 (by decide) (by decide))
            have dj := hbk1.cell 13
            rw [Ej.out] at dj
            have fj := hbk1.frozen 13
            have hres := Iv.appEx HV2.out 13 (by decide) (by decide) (.slice (some ⟨gg, 0, none⟩) (l.length + 30) gc) v' hown' (by rw [Ej.out]; exact (Touch.alloc _ _ _).trans (Touch.grown hgrow (fun k hk => by simp [hk]))) (by rw [Ej.out]; rcases hat with h | h; exact .inl h; exact .inr ⟨_, h, by simp⟩)
            have HR : Hid (Iv (w1.setCell ⟨b, 13, none⟩ v') base b (put (f1) 13 v') (putl (xs1) 13 ((xs1) 13 ++ [.slice (some ⟨gg, 0, none⟩) (l.length + 30) gc])) (gg :: K1) ∧ Ex wr (w1.setCell ⟨b, 13, none⟩ v') b (f1) (put (f1) 13 v') (gg :: K1) (gg :: K1)) := hres
            obtain ⟨gq, cq, rfl⟩ := row_sl hown'
            clear hown' hgrow hat hbk1 hres cj
            go_wp2_with fail
            go_meet
            exact ⟨_, HR.out⟩
          case rest =>
          obtain ⟨v13, hV3, hE3⟩ := hcut
          obtain ⟨w2, hw2⟩ : ∃ w2, w2 = wc := ⟨_, rfl⟩
          subst hw2
          have HV3 : Hid (Iv w2 base b (put f1 13 v13) (putl xs1 13 (xs1 13 ++ [.slice (some ⟨gg, 0, none⟩) (l.length + 30) gc])) (gg :: K1)) := hV3
          have HE3 : Hid (Ex wr w2 b f1 (put f1 13 v13) (gg :: K1) (gg :: K1)) := hE3
          have HRd3 : Hid (Rd w2 (gg :: K1) (.slice (some ⟨gg, 0, none⟩) (l.length + 30) gc) (ints (l ++ lay m 30))) := hE3.rd HV2.out HRd.out
          clear hV3 hE3
          go_upto_region 10 with fail
          obtain ⟨aj, pj, ej⟩ := row_sl (HV3.out.own 14 (by decide) (by decide))
          have cj := HV3.out.bk.cell 14
          rw [ej] at cj
          have cja : (w2.alloc (.cells #[] 3)).cell? ⟨b, 14, none⟩ = some (.slice aj ((putl xs1 13 (xs1 13 ++ [.slice (some ⟨gg, 0, none⟩) (l.length + 30) gc])) 14).length pj) := Lib.cell?_alloc_some _ cj
          have hrow := HV3.out.own 14 (by decide) (by decide)
          rw [ej] at hrow
          have Ej : Hid ((put f1 13 v13) 14 = .slice aj ((putl xs1 13 (xs1 13 ++ [.slice (some ⟨gg, 0, none⟩) (l.length + 30) gc])) 14).length pj) := ej
          have Hrow : Hid (w2.ownsRow base 29 1 (.slice aj ((putl xs1 13 (xs1 13 ++ [.slice (some ⟨gg, 0, none⟩) (l.length + 30) gc])) 14).length pj) ((putl xs1 13 (xs1 13 ++ [.slice (some ⟨gg, 0, none⟩) (l.length + 30) gc])) 14).length ((putl xs1 13 (xs1 13 ++ [.slice (some ⟨gg, 0, none⟩) (l.length + 30) gc])) 14)) := hrow
          have hnj : ((putl xs1 13 (xs1 13 ++ [.slice (some ⟨gg, 0, none⟩) (l.length + 30) gc])) 14).length < 1000000 := by rw [putl_ne _ _ (by decide)]; have := HS1.out.1; have := HP1.out.len; omega
          have hln : (l.length + 30) ≤ 64 := by omega
          have Hln : Hid ((ints (l ++ lay m 30)).length = (l.length + 30) ∧ 0 < (l.length + 30)) := by exact (⟨by simp [ints], by omega⟩ : (ints (l ++ lay m 30)).length = l.length + 30 ∧ 0 < l.length + 30)
          have Hb : Hid (b < w2.heap.size ∧ base ≤ w2.heap.size) := ⟨HV3.out.bk.lt, by have := HV3.out.lo; have := HV3.out.bk.lt; omega⟩
          have Hsrc : Hid (∀ (i : Nat) x, (ints (l ++ lay m 30))[i]? = some x → w2.cell? ⟨gg, i, none⟩ = some x) := by (
            obtain ⟨g9, c9, e9, _, h9⟩ := HRd3.out
            simp only [Value.slice.injEq, Option.some.injEq, Addr.mk.injEq, and_true] at e9
            obtain ⟨rfl, _⟩ := e9
            exact h9)
          clear ej hrow 
          go_region_law (first
            | (refine step_append_own_at rfl (.tmp 56) (.tmp 57) 29 rfl w2.heap.size 3 i0 (.int .i64 0) 1 8 Tryd.underlying29 HI.out.a0 HI.out.a1 HI.out.a2 HI.out.a3 rfl (by decide) (.slice (some ⟨w2.heap.size, 0, none⟩) 0 0) 0 [] rfl (World.ownsRow_lit w2.drew #[] 0 (Nat.le_refl _) (by simp [maxLen]) rfl) ⟨gg, 0, none⟩ (l.length + 30) (gc) (ints (l ++ lay m 30)) rfl (by rw [Hln.out.1, Nat.mul_one]) (fun i x hi => by rw [Addr.add_mid, Nat.zero_add]; exact Lib.cell?_alloc_some _ (Hsrc.out i x hi)) (ints_one _) (by simp [maxLen]; omega) (by omega) (by simp) ?_
               intro u w1 ho1 hg1 hat1
               have hg1' : (w2.drew.alloc (.cells #[] 3)).grownBy w1 (some w2.heap.size) := hg1
               have hbk1 := grow_bk hg1' (show Bk w2.drew b (put f1 13 v13) from HV3.out.bk) (by simp; have := Hb.out.1; omega)
               have dj := hbk1.cell 14
               rw [Ej.out] at dj
               have dja : (w1.alloc (.cells #[u] 29)).cell? ⟨b, 14, none⟩ = some (.slice aj ((putl xs1 13 (xs1 13 ++ [.slice (some ⟨gg, 0, none⟩) (l.length + 30) gc])) 14).length pj) := Lib.cell?_alloc_some _ dj
               have ht1 : Touch [] w2 w1 := ((Touch.drew _ w2).trans (Touch.alloc _ _ _)).then (Touch.grown hg1' (F := [w2.heap.size]) (fun k hk => by simp at hk; simp [hk])) (fun k hk => by simp at hk; exact .inr (by omega))
               have hrow1 : w1.ownsRow base 29 1 (.slice aj ((putl xs1 13 (xs1 13 ++ [.slice (some ⟨gg, 0, none⟩) (l.length + 30) gc])) 14).length pj) ((putl xs1 13 (xs1 13 ++ [.slice (some ⟨gg, 0, none⟩) (l.length + 30) gc])) 14).length ((putl xs1 13 (xs1 13 ++ [.slice (some ⟨gg, 0, none⟩) (l.length + 30) gc])) 14) := row_keep2 Hrow.out ht1 (fun k _ h => by cases h)
               simp only [List.nil_append, Nat.zero_add] at ho1
               obtain ⟨ug, uc, rfl⟩ := ownsRow_some ho1 Hln.out.2
               have HU : Hid (w1.ownsRow w2.heap.size 3 1 (.slice (some ⟨ug, 0, none⟩) (l.length + 30) uc) (l.length + 30) (ints (l ++ lay m 30))) := ho1
               have HT1 : Hid (Touch [] w2 w1) := ht1
               have Hrow1 : Hid (w1.ownsRow base 29 1 (.slice aj ((putl xs1 13 (xs1 13 ++ [.slice (some ⟨gg, 0, none⟩) (l.length + 30) gc])) 14).length pj) ((putl xs1 13 (xs1 13 ++ [.slice (some ⟨gg, 0, none⟩) (l.length + 30) gc])) 14).length ((putl xs1 13 (xs1 13 ++ [.slice (some ⟨gg, 0, none⟩) (l.length + 30) gc])) 14)) := hrow1
               clear ho1 hg1 hg1' hat1 hbk1 ht1 hrow1)
            | (refine step_append_own_at rfl (.tmp 55) (.tmp 59) 30 rfl base 29 i1 (.slice none 0 0) 1 24 Tryd.underlying30 HI.out.b0 HI.out.b1 HI.out.b2 HI.out.b3 rfl (by decide) (.slice aj ((putl xs1 13 (xs1 13 ++ [.slice (some ⟨gg, 0, none⟩) (l.length + 30) gc])) 14).length pj) ((putl xs1 13 (xs1 13 ++ [.slice (some ⟨gg, 0, none⟩) (l.length + 30) gc])) 14).length ((putl xs1 13 (xs1 13 ++ [.slice (some ⟨gg, 0, none⟩) (l.length + 30) gc])) 14) rfl (Hrow1.out.alloc _) ⟨w1.heap.size, 0, none⟩ 1 1 [.slice (some ⟨ug, 0, none⟩) (l.length + 30) uc] rfl rfl (cell_one_new _ _ _) (by simp [Value.oneCell']) (by simp [maxLen]; omega) (by omega) (by have := Hb.out.2; have := HT1.out.size; simp; omega) ?_
               intro v' wz ho2 hg2 hat2
               obtain ⟨m1, m2, m3⟩ := copy_ex HV3.out 14 (by decide) (by decide) Ej.out HT1.out HU.out ho2 hg2 hat2
               have HM1 : Hid (Iv (wz.setCell ⟨b, 14, none⟩ v') base b (put (put f1 13 v13) 14 v') (putl (putl xs1 13 (xs1 13 ++ [.slice (some ⟨gg, 0, none⟩) (l.length + 30) gc])) 14 ((putl xs1 13 (xs1 13 ++ [.slice (some ⟨gg, 0, none⟩) (l.length + 30) gc])) 14 ++ [.slice (some ⟨ug, 0, none⟩) (l.length + 30) uc])) (ug :: (gg :: K1)) ∧ Ex w2 (wz.setCell ⟨b, 14, none⟩ v') b (put f1 13 v13) (put (put f1 13 v13) 14 v') (gg :: K1) (ug :: (gg :: K1)) ∧ Rd (wz.setCell ⟨b, 14, none⟩ v') (ug :: (gg :: K1)) (.slice (some ⟨ug, 0, none⟩) (l.length + 30) uc) (ints (l ++ lay m 30))) := ⟨m1, m2, m3⟩
               have hbk2 := grow_bk hg2 (show Bk w1 b (put f1 13 v13) from HV3.out.bk.touch HT1.out (by simp)) (by rw [← Ej.out]; exact HV3.out.rb 14 (by decide) (by decide))
               have ej2 := hbk2.cell 14
               rw [Ej.out] at ej2
               have fj2 := hbk2.frozen 14
               obtain ⟨vg, vc, rfl⟩ := row_sl ho2
               clear ho2 hg2 hat2 m1 m2 m3 hbk2))
          all_goals
            go_wp2
            go_roundw
            case rel =>
              obtain ⟨m1, m2, m3⟩ := HM1.out
              have hE : Ex w0 _ b f1 _ K1 _ := HE2.out.trans (HE3.out.trans m2)
              have hP0 := hE.prs HV1.out HP1.out
              refine ⟨k + 1, by omega, by go_num, _, _, _, m1, ?_, HE1.out.trans hE, ?_, ?_, ?_⟩
              · rw [putl_ne _ _ (show (13 : Nat) ≠ 14 by decide), putl_same xs1 13, putl_same _ 14]
                try rw [putl_ne _ _ (show (14 : Nat) ≠ 13 by decide)]
                exact hP0.snoc _ _ (l ++ lay m 30) (m2.rd HV3.out HRd3.out) m3 (by simp; omega)
              · rw [putl_ne _ _ (show (13 : Nat) ≠ 14 by decide), putl_same xs1 13]
                have := HS1.out.1
                simp; omega
              · intro j j1 j2
                rw [put_ne _ _ j2, put_ne _ _ j1, putl_ne _ _ j2, putl_ne _ _ j1]
                exact HS1.out.2 j j1 j2
              · intro v hv
                rw [putl_ne _ _ (show (13 : Nat) ≠ 14 by decide), putl_same xs1 13, putl_same _ 14] at hv
                try rw [putl_ne _ _ (show (14 : Nat) ≠ 13 by decide)] at hv
                have z1 := HSz.out
                have z2 := Hgg.out
                have z3 : wr.heap.size ≤ w2.heap.size := by obtain ⟨G, q1, _⟩ := HE3.out.t; exact q1.size
                have z4 := (HU.out.lt ug rfl).1
                simp only [List.mem_append, List.mem_cons, List.not_mem_nil, or_false] at hv
                rcases hv with (hv | hv) | (hv | hv)
                · exact HN1.out v (by simp [hv])
                · exact .inr ⟨gg, by rw [hv]; rfl, by omega⟩
                · exact HN1.out v (by simp [hv])
                · exact .inr ⟨ug, by rw [hv]; rfl, by omega⟩
            case measure => simp [intOf]; omega
    · obtain rfl : k = (xs 17).length := by omega
      have f17 := HV1.out.bk.frozen 17
      have hV2 := HV1.out.drop 17 (by decide) (by decide)
      have hE2 := HV1.out.dropEx 17
      have f20 := hV2.bk.frozen 20
      have hV3 := hV2.drop 20 (by decide) (by decide)
      have hE3 := hV2.dropEx 20
      have HV3 : Hid (Iv ((wr.setCell ⟨b, 17, none⟩ (.slice none 0 0)).setCell ⟨b, 20, none⟩ (.slice none 0 0)) base b _ _ K1) := hV3
      have HE3 : Hid (Ex w ((wr.setCell ⟨b, 17, none⟩ (.slice none 0 0)).setCell ⟨b, 20, none⟩ (.slice none 0 0)) b f _ K K1) := HE1.out.trans (hE2.trans hE3)
      have HP3 : Hid (Prs ((wr.setCell ⟨b, 17, none⟩ (.slice none 0 0)).setCell ⟨b, 20, none⟩ (.slice none 0 0)) K1 (xs1 13) (xs1 14)) := (hE2.trans hE3).prs HV1.out HP1.out
      have d20 := hV2.bk.cell 20
      rw [put_ne _ _ (by decide), (HS1.out.2 20 (by decide) (by decide)).1, E20.out] at d20
      clear hV2 hE2 hV3 hE3 hlt
      go_wp2
      go_end0
      refine ⟨rfl, _, _, _, HV3.out, ?_, HE3.out, ?_, ?_, ?_, ?_, ?_⟩
      · exact HP3.out
      · exact HS1.out.1
      · simp [putl]
      · simp [putl]
      · intro j j1 j2 j3 j4
        rw [put_ne _ _ j4, put_ne _ _ j3, putl_ne _ _ j4, putl_ne _ _ j3]
        exact HS1.out.2 j j1 j2
      · exact HN1.out

end Go.Proofs.YtdcmpilgfkaamaaDoor
