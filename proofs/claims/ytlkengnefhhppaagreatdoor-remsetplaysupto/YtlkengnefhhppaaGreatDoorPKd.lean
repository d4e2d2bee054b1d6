import Derived.Test.YtlkengnefhhppaaGreatDoorPKc
set_option linter.unusedVariables false
set_option maxHeartbeats 8000000
set_option maxRecDepth 20000
namespace Go.Proofs.YtlkengnefhhppaaGreatDoor.Kg
open Go.RowKit
theorem List.mem_take_more {x : Value} {A : List Value} {k : Nat} (h : x ∈ A.take k) : x ∈ A.take (k + 1) := (List.take_prefix_take_left (Nat.le_succ k)).subset h
theorem List.mem_take_self {x : Value} {A : List Value} {k : Nat} (h : A[k]? = some x) : x ∈ A.take (k + 1) := by
  refine List.mem_of_getElem? (i := k) ?_
  rw [List.getElem?_take, if_pos (by omega)]; exact h
theorem Frs.more {w : World} {base k : Nat} {K : List Nat} {A : List Value} {ms : List Int} (h : Frs w base K k A ms) (g : Nat) : Frs w base (g :: K) k A ms :=
  h.keep (Touch.refl [] w) (fun q hq => by simp [hq]) (fun _ _ _ _ _ _ hm => by cases hm)
theorem growInts_any {w : World} {base b : Nat} {f : Nat → Value} {xs : Nat → List Value} {K : List Nat} {ms : List Int} (h : Iv w base b f xs K) (hbase : base ≤ w.heap.size) (h1 : Prs w K (xs 13) (xs 14)) (hF : Frs w base K 0 (xs 17) ms) (hPw : (xs 17).Pairwise Far) (hSe : ∀ v, v ∈ xs 17 → ∀ x, x ∈ xs 13 ++ xs 14 → Far v x ∨ x = v) (hM : xs 20 = ints ms) (n1 : (xs 13).length + (xs 17).length < 4000000000) (n2 : (xs 17).length < 4000000000) :
    Calls Tryz.prog 185 #[.pointer (some ⟨b, 0, none⟩)] w fun e w' => e = .returned (.tuple #[]) ∧ ∃ f' xs' K', Iv w' base b f' xs' K' ∧ Prs w' K' (xs' 13) (xs' 14) ∧ Ez w w' b f f' K K' (xs 17) ∧ (xs' 13).length = (xs 13).length + (xs 17).length ∧ xs' 17 = [] ∧ xs' 20 = [] ∧ (∀ j, j ≠ 13 → j ≠ 14 → j ≠ 17 → j ≠ 20 → f' j = f j ∧ xs' j = xs j) ∧ (∀ v, v ∈ xs' 13 ++ xs' 14 → v ∈ xs 13 ++ xs 14 ∨ (∃ q, v.ownBlock = some q ∧ w.heap.size ≤ q) ∨ ∃ x, x ∈ xs 17 ∧ v.ownBlock = x.ownBlock) := by
  obtain ⟨i0, i1, hI⟩ := inf_ex
  have HI : Hid (Inf i0 i1) := hI
  have HF : Hid (Frs w base K 0 (xs 17) ms) := hF
  have HM : Hid (xs 20 = ints ms) := hM
  have HV : Hid (Iv w base b f xs K) := h
  have HP : Hid (Prs w K (xs 13) (xs 14)) := h1
  have HPw : Hid ((xs 17).Pairwise Far) := hPw
  have HSe : Hid (∀ v, v ∈ xs 17 → ∀ x, x ∈ xs 13 ++ xs 14 → Far v x ∨ x = v) := hSe
  have hml : ms.length = (xs 17).length := hF.len.symm
  obtain ⟨a17, p17, e17⟩ := row_sl (h.own 17 (by decide) (by decide))
  obtain ⟨a20, p20, e20⟩ := row_sl (h.own 20 (by decide) (by decide))
  rw [hM, show (ints ms).length = ms.length by simp [ints], hml] at e20
  have E17 : Hid (f 17 = .slice a17 (xs 17).length p17) := e17
  have E20 : Hid (f 20 = .slice a20 (xs 17).length p20) := e20
  have HBs : Hid (base ≤ w.heap.size) := hbase
  clear h h1 hF hM hI e17 e20 hbase hml hPw hSe
  go_enter Tryz.func185, Tryz.ntmps185
  go_wp2
  go_loopw [2] (fun i wr => ∃ k : Nat, k ≤ (xs 17).length ∧ i = .int .i64 k ∧ (∃ f1 xs1 K1, Iv wr base b f1 xs1 K1 ∧ Prs wr K1 (xs1 13) (xs1 14) ∧ Ez w wr b f f1 K K1 (xs 17) ∧ (xs1 13).length = (xs 13).length + k ∧ (∀ j, j ≠ 13 → j ≠ 14 → f1 j = f j ∧ xs1 j = xs j) ∧ (∀ v, v ∈ xs1 13 ++ xs1 14 → v ∈ xs 13 ++ xs 14 ∨ (∃ q, v.ownBlock = some q ∧ w.heap.size ≤ q) ∨ ∃ x, x ∈ (xs 17).take k ∧ v.ownBlock = x.ownBlock) ∧ Frs wr base K1 k (xs 17) ms)) (fun i _ => (xs 17).length - (intOf i).toNat)
  case atStart => exact ⟨0, Nat.zero_le _, rfl, f, xs, K, HV.out, HP.out, (Ex.refl _ _ _ _).ez _, rfl, fun j _ _ => ⟨rfl, rfl⟩, fun v hv => .inl hv, HF.out⟩
  case round =>
    obtain ⟨k, hk, rfl, f1, xs1, K1, hV1, hP1, hE1, hl1, hS1, hN1, hFr⟩ := hrel
    have c17 := hV1.bk.cell 17
    have c20 := hV1.bk.cell 20
    rw [(hS1 17 (by decide) (by decide)).1, E17.out] at c17
    rw [(hS1 20 (by decide) (by decide)).1, E20.out] at c20
    have HV1 : Hid (Iv wr base b f1 xs1 K1) := hV1
    have HP1 : Hid (Prs wr K1 (xs1 13) (xs1 14)) := hP1
    have HE1 : Hid (Ez w wr b f f1 K K1 (xs 17)) := hE1
    have HS1 : Hid ((xs1 13).length = (xs 13).length + k ∧ ∀ j, j ≠ 13 → j ≠ 14 → f1 j = f j ∧ xs1 j = xs j) := ⟨hl1, hS1⟩
    have HN1 : Hid (∀ v, v ∈ xs1 13 ++ xs1 14 → v ∈ xs 13 ++ xs 14 ∨ (∃ q, v.ownBlock = some q ∧ w.heap.size ≤ q) ∨ ∃ x, x ∈ (xs 17).take k ∧ v.ownBlock = x.ownBlock) := hN1
    have HSz : Hid (w.heap.size ≤ wr.heap.size) := hE1.size
    have HSz2 : Hid (w.heap.size ≤ wr.heap.size) := hE1.size
    clear hN1
    have hbr : base ≤ wr.heap.size := by have := HBs.out; have := hE1.size; omega
    have HBr : Hid (base ≤ wr.heap.size) := hbr
    have HFr : Hid (Frs wr base K1 k (xs 17) ms) := hFr
    clear hV1 hP1 hE1 hl1 hS1 hbr hFr
    by_cases hlt : k < (xs 17).length
    · obtain ⟨v, hv⟩ : ∃ v, (xs 17)[k]? = some v := ⟨_, List.getElem?_eq_getElem hlt⟩
      obtain ⟨l, m, hm, hm0, hm1, hrow, hvK, hl9⟩ := HFr.out.at_ k v (Nat.le_refl _) hv
      have hr17 := HV1.out.own 17 (by decide) (by decide)
      rw [(HS1.out.2 17 (by decide) (by decide)).1, (HS1.out.2 17 (by decide) (by decide)).2, E17.out] at hr17
      have hr20 := HV1.out.own 20 (by decide) (by decide)
      rw [(HS1.out.2 20 (by decide) (by decide)).1, (HS1.out.2 20 (by decide) (by decide)).2, E20.out, HM.out] at hr20
      obtain ⟨g, cap, e1, c1⟩ := row_val hr17 k v hv
      obtain ⟨g2, cap2, e2, c2⟩ := row_val hr20 k (.int .i64 m) (by simp [ints, hm])
      simp only [Value.slice.injEq, true_and] at e1 e2
      obtain ⟨rfl, rfl⟩ := e1
      obtain ⟨rfl, hx9, rfl⟩ := e2
      clear hx9
      have hki : (k : Int) < (xs 17).length := by omega
      have HK : Hid ((xs 17)[k]? = some v) := hv
      have HRow : Hid (Row wr base v l) := hrow
      have HvK : Hid (∀ g, v.ownBlock = some g → g ∈ K1) := hvK
      have HL : Hid (l.length ≤ 10000000000000) := hl9
      have hvm : v ∈ xs 17 := List.mem_of_getElem? hv
      have HvLt : Hid (∀ g, v.ownBlock = some g → g < w.heap.size) := fun g hg => by
        obtain ⟨_, _, _, _, _, _, q, _⟩ := HF.out.at_ k v (Nat.zero_le _) hv
        exact (HV.out.kin g (q g hg)).2
      have HFar : Hid (∀ (i : Nat) x, k + 1 ≤ i → (xs 17)[i]? = some x → ∀ g, x.ownBlock = some g → g ∉ v.ownBlock.toList) := fun i x hi hx g hg hm => by
        have hvo : v.ownBlock = some g := by simpa using hm
        obtain ⟨hi1, hi2⟩ := List.getElem?_eq_some_iff.1 hx
        obtain ⟨hk1, hk2⟩ := List.getElem?_eq_some_iff.1 hv
        have := List.pairwise_iff_getElem.1 HPw.out k i hk1 hi1 (by omega)
        rw [hk2, hi2] at this
        exact this g hvo hg
      have HSv : Hid (∀ x, x ∈ xs1 13 ++ xs1 14 → Far v x ∨ x = v) := fun x hx => by
        rcases HN1.out x hx with h | ⟨q, e, hq⟩ | ⟨y, hy, e⟩
        · exact HSe.out v hvm x h
        · exact .inl (fun g hg hm => by rw [e] at hm; simp at hm; subst hm; have := HvLt.out _ hg; omega)
        · refine .inl (fun g hg hm => ?_)
          rw [e] at hm
          obtain ⟨i, hi⟩ := List.getElem?_of_mem hy
          rw [List.getElem?_take] at hi
          split at hi
          · rename_i hik
            obtain ⟨hi1, hi2⟩ := List.getElem?_eq_some_iff.1 hi
            obtain ⟨hk1, hk2⟩ := List.getElem?_eq_some_iff.1 hv
            have := List.pairwise_iff_getElem.1 HPw.out i k hi1 hk1 hik
            rw [hk2, hi2] at this
            exact this g hm hg
          · cases hi
      obtain ⟨va, vc, hve⟩ := row_sl hrow
      clear hr17 hr20 hv hm hrow hvK hl9 hvm
      subst hve
      go_upto_region 6 with fail
      obtain ⟨w0, hw0⟩ : ∃ w0, w0 = wr := ⟨_, rfl⟩
      subst hw0
      have HVlt : Hid (∀ g, (Value.slice va l.length vc).ownBlock = some g → g < w0.heap.size) := fun g hg => Nat.lt_of_lt_of_le (HvLt.out g hg) HSz.out
      clear c17 c20 c1 c2
      go_loopw [4, 5] (fun gl0 i wr2 => ∃ gl, gl = gl0 ∧ ∃ q : Nat, q ≤ 30 ∧ i = .int .i64 q ∧ Gi w0 wr2 base (.slice va l.length vc) l gl q m) (fun _ i _ => 30 - (intOf i).toNat)
      case atStart => exact ⟨_, rfl, 0, by omega, rfl, Gi.start HRow.out m⟩
      case round =>
        obtain ⟨gl, hgl, q, hq, rfl, hG⟩ := hrel
        subst hgl
        have hl9 := HL.out
        by_cases hq30 : q < 30
        · have hqi : (q : Int) < 30 := by omega
          have HG : Hid (Gi w0 wr base (.slice va l.length vc) l gl q m) := hG
          obtain ⟨ga, gc, rfl⟩ := row_sl hG.row
          have Hbw : Hid (base ≤ wr.heap.size) := Nat.le_trans HBr.out hG.t.size
          clear hG
          go_wp2_with (at_builtin; refine wpList_append_row rfl _ _ 32 rfl base 3 i0 (.int .i64 0) 8 Tryz.underlying32 HI.out.a0 HI.out.a1 HI.out.a2 HI.out.a3 rfl _ _ _ rfl (HG.out.row.alloc _) (some ⟨wr.heap.size, 0, none⟩) 1 1 [.int .i64 (m + 6 + 5 * (q : Int))] rfl rfl (fun j u hj => ⟨_, rfl, cell_one_new _ _ _ j u hj⟩) (by simp [Value.oneCell']) (by simp [maxLen]; omega) (by omega) (by have := Hbw.out; simp; omega) ?_)
          intro v' w1 hown' hgrow hnil hat hold
          have HG1 : Hid (Gi w0 w1 base (.slice va l.length vc) l v' (q + 1) m) := HG.out.step HVlt.out (by simpa [ints] using hown') hgrow (by simpa using hat) (by simpa [ints] using hold)
          obtain ⟨gg, cc, rfl⟩ := row_sl hown'
          clear hown' hgrow hat hold hnil
          go_wp2
          go_roundw
          case rel => exact ⟨_, rfl, q + 1, by omega, by go_num, HG1.out⟩
          case measure => simp [intOf]; omega
        · obtain rfl : q = 30 := by omega
          have HG : Hid (Gi w0 wr base (.slice va l.length vc) l gl 30 m) := hG
          obtain ⟨gg, gc, rfl⟩ := ownsRow_some hG.row (by omega)
          have HT2 : Hid (Touch (Value.slice va l.length vc).ownBlock.toList w0 wr) := hG.t
          have Hat : Hid ((some gg : Option Nat) = (Value.slice va l.length vc).ownBlock ∨ w0.heap.size ≤ gg) := by
            rcases hG.at_ with e | ⟨g, e, hge⟩
            · exact (.inl e : _ ∨ _)
            · simp only [Value.ownBlock, Option.some.injEq] at e; subst e; exact (.inr hge : _ ∨ _)
          have hggl := hG.row.lt gg rfl
          have hV1k : Iv wr base b f1 xs1 K1 := HV1.out.keep hG.t (fun q hq ho => HV1.out.ownK ho (HvK.out q (by simpa using hq)))
          have HV2 : Hid (Iv wr base b f1 xs1 (gg :: K1)) := hV1k.more hggl.1 hggl.2 (fun ho => by
            rcases Hat.out with e | e
            · exact HV1.out.ownK ho (HvK.out gg e.symm)
            · have := (HV1.out.ownLt ho).2; omega)
          have HE2 : Hid (Ez w0 wr b f1 f1 K1 (gg :: K1) (xs 17)) := ⟨⟨_, hG.t, fun q hq => .inr ⟨_, List.mem_of_getElem? HK.out, by simpa using hq⟩⟩, fun q hq => .inl hq, fun q hq => by simp [hq], fun q hq => by
            rcases List.mem_cons.1 hq with rfl | hq
            · rcases Hat.out with e | e
              · exact .inl (HvK.out _ e.symm)
              · exact .inr e
            · exact .inl hq⟩
          have HP2 : Hid (Prs wr K1 (xs1 13) (xs1 14)) := HP1.out.grow hG.t HRow.out hG.vr HSv.out
          have HRd : Hid (Rd wr (gg :: K1) (.slice (some ⟨gg, 0, none⟩) (l.length + 30) gc) (ints (l ++ lay m 30))) := Rd.row hG.row (fun g hg => by simp [Value.ownBlock] at hg; simp [hg])
          have Hgg : Hid (w0.heap.size ≤ wr.heap.size) := hG.t.size
          clear hG hggl hV1k
          go_upto_region 9 with fail
          go_cut [] from 41 to 50 (fun wc => ∃ v', Iv wc base b (put (f1) 13 v') (putl (xs1) 13 ((xs1) 13 ++ [.slice (some ⟨gg, 0, none⟩) (l.length + 30) gc])) (gg :: K1) ∧ Ex wr wc b (f1) (put (f1) 13 v') (gg :: K1) (gg :: K1))
          case first =>
            obtain ⟨aj, pj, ej⟩ := row_sl (HV2.out.own 13 (by decide) (by decide))
            have cj := HV2.out.bk.cell 13
            rw [ej] at cj
            have hrow := HV2.out.own 13 (by decide) (by decide)
            rw [ej] at hrow
            have Ej : Hid ((f1) 13 = .slice aj ((xs1) 13).length pj) := ej
            have Hrow : Hid (wr.ownsRow base 32 1 (.slice aj ((xs1) 13).length pj) ((xs1) 13).length ((xs1) 13)) := hrow
            have hnj : ((xs1) 13).length < 4000000000 := by have := HS1.out.1; omega
            clear ej hrow 
            go_wp2_with (at_builtin; refine wpList_append_own_at _ rfl _ _ 62 rfl base 32 i1 (.slice none 0 0) 1 24 Tryz.underlying62 HI.out.b0 HI.out.b1 HI.out.b2 HI.out.b3 rfl (by decide) _ _ _ rfl (Hrow.out.alloc _) ⟨wr.heap.size, 0, none⟩ 1 1 [.slice (some ⟨gg, 0, none⟩) (l.length + 30) gc] rfl rfl (cell_one_new _ _ _) (by simp [Value.oneCell']) (by simp [maxLen]; omega) (by omega) (by have := HV2.out.lo; have := HV2.out.bk.lt; simp; omega) ?_)
            intro v' w1 hown' hgrow _ hat
            have hbk1 := grow_bk hgrow HV2.out.bk (by rw [← Ej.out]; exact HV2.out.rb 13 (by decide) (by decide))
            have dj := hbk1.cell 13
            rw [Ej.out] at dj
            have fj := hbk1.frozen 13
            have hres := Iv.appEx HV2.out 13 (by decide) (by decide) (.slice (some ⟨gg, 0, none⟩) (l.length + 30) gc) v' hown' (by rw [Ej.out]; exact (Touch.alloc _ _ _).trans (Touch.grown hgrow (fun k hk => by simp [hk]))) (by rw [Ej.out]; rcases hat with h | h; exact .inl h; exact .inr ⟨_, h, by simp⟩)
            have HR : Hid (Iv (w1.setCell ⟨b, 13, none⟩ v') base b (put (f1) 13 v') (putl (xs1) 13 ((xs1) 13 ++ [.slice (some ⟨gg, 0, none⟩) (l.length + 30) gc])) (gg :: K1) ∧ Ex wr (w1.setCell ⟨b, 13, none⟩ v') b (f1) (put (f1) 13 v') (gg :: K1) (gg :: K1)) := hres
            obtain ⟨gq, cq, rfl⟩ := row_sl hown'
            clear hown' hgrow hat hbk1 hres cj
            go_wp2_with fail
            go_meet
            exact ⟨_, HR.out⟩
          case rest =>
          obtain ⟨v13, hV3, hE3⟩ := hcut
          obtain ⟨w2, hw2⟩ : ∃ w2, w2 = wc := ⟨_, rfl⟩
          subst hw2
          have HV3 : Hid (Iv w2 base b (put f1 13 v13) (putl xs1 13 (xs1 13 ++ [.slice (some ⟨gg, 0, none⟩) (l.length + 30) gc])) (gg :: K1)) := hV3
          have HE3 : Hid (Ex wr w2 b f1 (put f1 13 v13) (gg :: K1) (gg :: K1)) := hE3
          have HRd3 : Hid (Rd w2 (gg :: K1) (.slice (some ⟨gg, 0, none⟩) (l.length + 30) gc) (ints (l ++ lay m 30))) := hE3.rd HV2.out HRd.out
          clear hV3 hE3
          go_upto_region 10 with fail
          obtain ⟨aj, pj, ej⟩ := row_sl (HV3.out.own 14 (by decide) (by decide))
          have cj := HV3.out.bk.cell 14
          rw [ej] at cj
          have cja : (w2.alloc (.cells #[] 3)).cell? ⟨b, 14, none⟩ = some (.slice aj ((putl xs1 13 (xs1 13 ++ [.slice (some ⟨gg, 0, none⟩) (l.length + 30) gc])) 14).length pj) := Lib.cell?_alloc_some _ cj
          have hrow := HV3.out.own 14 (by decide) (by decide)
          rw [ej] at hrow
          have Ej : Hid ((put f1 13 v13) 14 = .slice aj ((putl xs1 13 (xs1 13 ++ [.slice (some ⟨gg, 0, none⟩) (l.length + 30) gc])) 14).length pj) := ej
          have Hrow : Hid (w2.ownsRow base 32 1 (.slice aj ((putl xs1 13 (xs1 13 ++ [.slice (some ⟨gg, 0, none⟩) (l.length + 30) gc])) 14).length pj) ((putl xs1 13 (xs1 13 ++ [.slice (some ⟨gg, 0, none⟩) (l.length + 30) gc])) 14).length ((putl xs1 13 (xs1 13 ++ [.slice (some ⟨gg, 0, none⟩) (l.length + 30) gc])) 14)) := hrow
          have hnj : ((putl xs1 13 (xs1 13 ++ [.slice (some ⟨gg, 0, none⟩) (l.length + 30) gc])) 14).length < 4000000000 := by rw [putl_ne _ _ (by decide)]; have := HS1.out.1; have := HP1.out.len; omega
          have hln : (l.length + 30) ≤ 11000000000000 := by have := HL.out; omega
          have Hln : Hid ((ints (l ++ lay m 30)).length = (l.length + 30) ∧ 0 < (l.length + 30)) := by exact (⟨by simp [ints], by omega⟩ : (ints (l ++ lay m 30)).length = l.length + 30 ∧ 0 < l.length + 30)
          have Hb : Hid (b < w2.heap.size ∧ base ≤ w2.heap.size) := ⟨HV3.out.bk.lt, by have := HV3.out.lo; have := HV3.out.bk.lt; omega⟩
          have Hsrc : Hid (∀ (i : Nat) x, (ints (l ++ lay m 30))[i]? = some x → w2.cell? ⟨gg, i, none⟩ = some x) := by (
            obtain ⟨g9, c9, e9, _, h9⟩ := HRd3.out
            intro i x hi
            obtain ⟨g8, e8, c8⟩ := h9 i x hi
            simp only [Value.slice.injEq] at e9
            rw [e8] at e9
            simp only [Option.some.injEq, Addr.mk.injEq, and_true] at e9
            rw [e9.1]
            exact c8)
          clear ej hrow 
          go_region_law (first
            | (refine step_append_own_at rfl (.tmp 56) (.tmp 57) 32 rfl w2.heap.size 3 i0 (.int .i64 0) 1 8 Tryz.underlying32 HI.out.a0 HI.out.a1 HI.out.a2 HI.out.a3 rfl (by decide) (.slice (some ⟨w2.heap.size, 0, none⟩) 0 0) 0 [] rfl (World.ownsRow_lit w2.drew #[] 0 (Nat.le_refl _) (by simp [maxLen]) rfl) ⟨gg, 0, none⟩ (l.length + 30) (gc) (ints (l ++ lay m 30)) rfl (by rw [Hln.out.1, Nat.mul_one]) (fun i x hi => by rw [Addr.add_mid, Nat.zero_add]; exact Lib.cell?_alloc_some _ (Hsrc.out i x hi)) (ints_one _) (by simp [maxLen]; omega) (by omega) (by simp) ?_
               intro u w1 ho1 hg1 hat1
               have hg1' : (w2.drew.alloc (.cells #[] 3)).grownBy w1 (some w2.heap.size) := hg1
               have hbk1 := grow_bk hg1' (show Bk w2.drew b (put f1 13 v13) from HV3.out.bk) (by simp; have := Hb.out.1; omega)
               have dj := hbk1.cell 14
               rw [Ej.out] at dj
               have dja : (w1.alloc (.cells #[u] 32)).cell? ⟨b, 14, none⟩ = some (.slice aj ((putl xs1 13 (xs1 13 ++ [.slice (some ⟨gg, 0, none⟩) (l.length + 30) gc])) 14).length pj) := Lib.cell?_alloc_some _ dj
               have ht1 : Touch [] w2 w1 := ((Touch.drew _ w2).trans (Touch.alloc _ _ _)).then (Touch.grown hg1' (F := [w2.heap.size]) (fun k hk => by simp at hk; simp [hk])) (fun k hk => by simp at hk; exact .inr (by omega))
               have hrow1 : w1.ownsRow base 32 1 (.slice aj ((putl xs1 13 (xs1 13 ++ [.slice (some ⟨gg, 0, none⟩) (l.length + 30) gc])) 14).length pj) ((putl xs1 13 (xs1 13 ++ [.slice (some ⟨gg, 0, none⟩) (l.length + 30) gc])) 14).length ((putl xs1 13 (xs1 13 ++ [.slice (some ⟨gg, 0, none⟩) (l.length + 30) gc])) 14) := row_keep2 Hrow.out ht1 (fun k _ h => by cases h)
               simp only [List.nil_append, Nat.zero_add] at ho1
               obtain ⟨ug, uc, rfl⟩ := ownsRow_some ho1 Hln.out.2
               have HU : Hid (w1.ownsRow w2.heap.size 3 1 (.slice (some ⟨ug, 0, none⟩) (l.length + 30) uc) (l.length + 30) (ints (l ++ lay m 30))) := ho1
               have HT1 : Hid (Touch [] w2 w1) := ht1
               have Hrow1 : Hid (w1.ownsRow base 32 1 (.slice aj ((putl xs1 13 (xs1 13 ++ [.slice (some ⟨gg, 0, none⟩) (l.length + 30) gc])) 14).length pj) ((putl xs1 13 (xs1 13 ++ [.slice (some ⟨gg, 0, none⟩) (l.length + 30) gc])) 14).length ((putl xs1 13 (xs1 13 ++ [.slice (some ⟨gg, 0, none⟩) (l.length + 30) gc])) 14)) := hrow1
               clear ho1 hg1 hg1' hat1 hbk1 ht1 hrow1)
            | (refine step_append_own_at rfl (.tmp 55) (.tmp 59) 62 rfl base 32 i1 (.slice none 0 0) 1 24 Tryz.underlying62 HI.out.b0 HI.out.b1 HI.out.b2 HI.out.b3 rfl (by decide) (.slice aj ((putl xs1 13 (xs1 13 ++ [.slice (some ⟨gg, 0, none⟩) (l.length + 30) gc])) 14).length pj) ((putl xs1 13 (xs1 13 ++ [.slice (some ⟨gg, 0, none⟩) (l.length + 30) gc])) 14).length ((putl xs1 13 (xs1 13 ++ [.slice (some ⟨gg, 0, none⟩) (l.length + 30) gc])) 14) rfl (Hrow1.out.alloc _) ⟨w1.heap.size, 0, none⟩ 1 1 [.slice (some ⟨ug, 0, none⟩) (l.length + 30) uc] rfl rfl (cell_one_new _ _ _) (by simp [Value.oneCell']) (by simp [maxLen]; omega) (by omega) (by have := Hb.out.2; have := HT1.out.size; simp; omega) ?_
               intro v' wz ho2 hg2 hat2
               obtain ⟨m1, m2, m3⟩ := copy_ex HV3.out 14 (by decide) (by decide) Ej.out HT1.out HU.out ho2 hg2 hat2
               have HM1 : Hid (Iv (wz.setCell ⟨b, 14, none⟩ v') base b (put (put f1 13 v13) 14 v') (putl (putl xs1 13 (xs1 13 ++ [.slice (some ⟨gg, 0, none⟩) (l.length + 30) gc])) 14 ((putl xs1 13 (xs1 13 ++ [.slice (some ⟨gg, 0, none⟩) (l.length + 30) gc])) 14 ++ [.slice (some ⟨ug, 0, none⟩) (l.length + 30) uc])) (ug :: (gg :: K1)) ∧ Ex w2 (wz.setCell ⟨b, 14, none⟩ v') b (put f1 13 v13) (put (put f1 13 v13) 14 v') (gg :: K1) (ug :: (gg :: K1)) ∧ Rd (wz.setCell ⟨b, 14, none⟩ v') (ug :: (gg :: K1)) (.slice (some ⟨ug, 0, none⟩) (l.length + 30) uc) (ints (l ++ lay m 30))) := ⟨m1, m2, m3⟩
               have hbk2 := grow_bk hg2 (show Bk w1 b (put f1 13 v13) from HV3.out.bk.touch HT1.out (by simp)) (by rw [← Ej.out]; exact HV3.out.rb 14 (by decide) (by decide))
               have ej2 := hbk2.cell 14
               rw [Ej.out] at ej2
               have fj2 := hbk2.frozen 14
               obtain ⟨vg, vc, rfl⟩ := row_sl ho2
               clear ho2 hg2 hat2 m1 m2 m3 hbk2))
          all_goals
            go_wp2
            go_roundw
            case rel =>
              obtain ⟨m1, m2, m3⟩ := HM1.out
              have hE := HE3.out.trans m2
              have hP0 := hE.prs HV2.out (HP2.out.more gg)
              refine ⟨k + 1, by omega, by go_num, _, _, _, m1, ?_, HE1.out.trans (HE2.out.trans (hE.ez _)), ?_, ?_, ?_, ?_⟩
              · rw [putl_ne _ _ (show (13 : Nat) ≠ 14 by decide), putl_same xs1 13, putl_same _ 14]
                try rw [putl_ne _ _ (show (14 : Nat) ≠ 13 by decide)]
                exact hP0.snoc _ _ (l ++ lay m 30) (m2.rd HV3.out HRd3.out) m3 (by simp; omega)
              · rw [putl_ne _ _ (show (13 : Nat) ≠ 14 by decide), putl_same xs1 13]
                have := HS1.out.1
                simp; omega
              · intro j j1 j2
                rw [put_ne _ _ j2, put_ne _ _ j1, putl_ne _ _ j2, putl_ne _ _ j1]
                exact HS1.out.2 j j1 j2
              · intro v hv
                rw [putl_ne _ _ (show (13 : Nat) ≠ 14 by decide), putl_same xs1 13, putl_same _ 14] at hv
                try rw [putl_ne _ _ (show (14 : Nat) ≠ 13 by decide)] at hv
                have z1 := HSz.out
                have z2 := Hgg.out
                have z5 := HSz2.out
                have z3 : wr.heap.size ≤ w2.heap.size := by obtain ⟨G, q1, _⟩ := HE3.out.t; exact q1.size
                have z4 := (HU.out.lt ug rfl).1
                simp only [List.mem_append, List.mem_cons, List.not_mem_nil, or_false] at hv
                rcases hv with (hv | hv) | (hv | hv)
                · exact (HN1.out v (by simp [hv])).imp id (Or.imp id (fun ⟨x, q1, q2⟩ => ⟨x, List.mem_take_more q1, q2⟩))
                · rcases Hat.out with e | e
                  · exact .inr (.inr ⟨_, List.mem_take_self HK.out, by rw [hv]; exact e⟩)
                  · exact .inr (.inl ⟨gg, by rw [hv]; rfl, by omega⟩)
                · exact (HN1.out v (by simp [hv])).imp id (Or.imp id (fun ⟨x, q1, q2⟩ => ⟨x, List.mem_take_more q1, q2⟩))
                · exact .inr (.inl ⟨ug, by rw [hv]; rfl, by omega⟩)
              · exact hE.frs HV2.out ((HFr.out.next.keep HT2.out (fun q hq => hq) HFar.out).more gg)
            case measure => simp [intOf]; omega
    · obtain rfl : k = (xs 17).length := by omega
      have f17 := HV1.out.bk.frozen 17
      have hV2 := HV1.out.drop 17 (by decide) (by decide)
      have hE2 := HV1.out.dropEx 17
      have f20 := hV2.bk.frozen 20
      have hV3 := hV2.drop 20 (by decide) (by decide)
      have hE3 := hV2.dropEx 20
      have HV3 : Hid (Iv ((wr.setCell ⟨b, 17, none⟩ (.slice none 0 0)).setCell ⟨b, 20, none⟩ (.slice none 0 0)) base b _ _ K1) := hV3
      have HE3 : Hid (Ez w ((wr.setCell ⟨b, 17, none⟩ (.slice none 0 0)).setCell ⟨b, 20, none⟩ (.slice none 0 0)) b f _ K K1 (xs 17)) := HE1.out.trans ((hE2.trans hE3).ez _)
      have HP3 : Hid (Prs ((wr.setCell ⟨b, 17, none⟩ (.slice none 0 0)).setCell ⟨b, 20, none⟩ (.slice none 0 0)) K1 (xs1 13) (xs1 14)) := (hE2.trans hE3).prs HV1.out HP1.out
      have d20 := hV2.bk.cell 20
      rw [put_ne _ _ (by decide), (HS1.out.2 20 (by decide) (by decide)).1, E20.out] at d20
      clear hV2 hE2 hV3 hE3 hlt
      go_wp2
      go_end0
      refine ⟨rfl, _, _, _, HV3.out, ?_, HE3.out, ?_, ?_, ?_, ?_, ?_⟩
      · exact HP3.out
      · exact HS1.out.1
      · simp [putl]
      · simp [putl]
      · intro j j1 j2 j3 j4
        rw [put_ne _ _ j4, put_ne _ _ j3, putl_ne _ _ j4, putl_ne _ _ j3]
        exact HS1.out.2 j j1 j2
      · exact fun v hv => (HN1.out v hv).imp id (Or.imp id (fun ⟨x, q1, q2⟩ => ⟨x, List.mem_of_mem_take q1, q2⟩))
structure Wts (w : World) (base : Nat) (K : List Nat) (A N : List Value) (ms : List Int) : Prop where
  l1 : A.length = N.length
  l2 : A.length = ms.length
  at_ : ∀ (i : Nat) v, A[i]? = some v → ∃ u l m, N[i]? = some u ∧ ms[i]? = some m ∧ 0 ≤ m ∧ m ≤ 1000000000000000 ∧ Row w base v l ∧ (∀ g, v.ownBlock = some g → g ∈ K) ∧ Rd w K u (ints l) ∧ l.length ≤ 10000000000000
theorem Wts.nil (w : World) (base : Nat) (K : List Nat) : Wts w base K [] [] [] := ⟨rfl, rfl, fun i v hv => by simp at hv⟩
theorem Wts.keep {w w' : World} {base : Nat} {K K' G : List Nat} {A N : List Value} {ms : List Int} (h : Wts w base K A N ms) (ht : Touch G w w') (hk : ∀ k, k ∈ K → k ∈ K') (hA : ∀ v, v ∈ A → ∀ k, v.ownBlock = some k → k ∉ G) (hN : ∀ v, v ∈ N → ∀ k, v.ownBlock = some k → k ∉ G) : Wts w' base K' A N ms := by
  refine ⟨h.l1, h.l2, fun i v hv => ?_⟩
  obtain ⟨u, l, m, h1, h2, h3, h4, h5, h6, h7, h8⟩ := h.at_ i v hv
  exact ⟨u, l, m, h1, h2, h3, h4, row_keep2 h5 ht (hA v (List.mem_of_getElem? hv)), fun g hg => hk g (h6 g hg), (h7.keep ht (hN u (List.mem_of_getElem? h1))).wide hk, h8⟩
theorem Wts.prs {w : World} {base : Nat} {K : List Nat} {A N : List Value} {ms : List Int} (h : Wts w base K A N ms) : Prs w K A N :=
  ⟨h.l1, fun i v hv => by
    obtain ⟨u, l, m, h1, h2, h3, h4, h5, h6, h7, h8⟩ := h.at_ i v hv
    exact ⟨u, l, h1, Rd.row h5 h6, h7, by omega⟩⟩
theorem Wts.snoc {w : World} {base : Nat} {K : List Nat} {A N : List Value} {ms : List Int} (h : Wts w base K A N ms) {u v : Value} {l : List Int} {m : Int} (h3 : 0 ≤ m) (h4 : m ≤ 1000000000000000) (h5 : Row w base v l) (h6 : ∀ g, v.ownBlock = some g → g ∈ K) (h7 : Rd w K u (ints l)) (h8 : l.length ≤ 10000000000000) :
    Wts w base K (A ++ [v]) (N ++ [u]) (ms ++ [m]) := by
  refine ⟨by simp [h.l1], by simp [h.l2], fun i x hx => ?_⟩
  by_cases hi : i < A.length
  · rw [List.getElem?_append_left hi] at hx
    obtain ⟨u', l', m', q1, q2, q3⟩ := h.at_ i x hx
    exact ⟨u', l', m', by rw [List.getElem?_append_left (by have := h.l1; omega)]; exact q1, by rw [List.getElem?_append_left (by have := h.l2; omega)]; exact q2, q3⟩
  · have hl := (List.getElem?_eq_some_iff.1 hx).1
    simp at hl
    obtain rfl : i = A.length := by omega
    rw [List.getElem?_append_right (Nat.le_refl _)] at hx
    simp at hx
    subst hx
    exact ⟨u, l, m, by rw [h.l1, List.getElem?_append_right (Nat.le_refl _)]; simp, by rw [h.l2, List.getElem?_append_right (Nat.le_refl _)]; simp, h3, h4, h5, h6, h7, h8⟩
theorem Wts.tail {w : World} {base : Nat} {K : List Nat} {A N : List Value} {ms : List Int} {k : Nat} (h : Wts w base K (A.drop k) (N.drop k) (ms.drop k)) : Wts w base K (A.drop (k + 1)) (N.drop (k + 1)) (ms.drop (k + 1)) := by
  have l1 := h.l1
  have l2 := h.l2
  simp only [List.length_drop] at l1 l2
  refine ⟨by simp only [List.length_drop]; omega, by simp only [List.length_drop]; omega, fun i v hv => ?_⟩
  rw [List.getElem?_drop] at hv
  have := h.at_ (i + 1) v (by rw [List.getElem?_drop, show k + (i + 1) = k + 1 + i by omega]; exact hv)
  obtain ⟨u, l, m, h1, h2, h3⟩ := this
  refine ⟨u, l, m, ?_, ?_, h3⟩
  · rw [List.getElem?_drop] at h1 ⊢; rw [show k + 1 + i = k + (i + 1) by omega]; exact h1
  · rw [List.getElem?_drop] at h2 ⊢; rw [show k + 1 + i = k + (i + 1) by omega]; exact h2
theorem Wts.inA {w : World} {base : Nat} {K : List Nat} {A N : List Value} {ms : List Int} (h : Wts w base K A N ms) {v : Value} (hv : v ∈ A) : ∀ g, v.ownBlock = some g → g ∈ K := by
  obtain ⟨i, hi⟩ := List.getElem?_of_mem hv
  obtain ⟨u, l, m, h1, h2, h3, h4, h5, h6, h7, h8⟩ := h.at_ i v hi
  exact h6
theorem Wts.inN {w : World} {base : Nat} {K : List Nat} {A N : List Value} {ms : List Int} (h : Wts w base K A N ms) {v : Value} (hv : v ∈ N) : ∀ g, v.ownBlock = some g → g ∈ K := by
  obtain ⟨i, hi⟩ := List.getElem?_of_mem hv
  have hlt := (List.getElem?_eq_some_iff.1 hi).1
  obtain ⟨v2, hv2⟩ : ∃ v2, A[i]? = some v2 := ⟨_, List.getElem?_eq_getElem (by have := h.l1; omega)⟩
  obtain ⟨u, l, m, h1, h2, h3, h4, h5, h6, h7, h8⟩ := h.at_ i v2 hv2
  rw [hi] at h1; simp at h1; subst h1
  exact h7.inK
structure Dst (A X : List Value) : Prop where
  one : A.Pairwise Far
  two : ∀ v, v ∈ A → ∀ u, u ∈ X → Far v u
theorem Dst.less {A X A' X' : List Value} (h : Dst A X) (hA : A'.Sublist A) (hX : ∀ u, u ∈ X' → u ∈ X) : Dst A' X' :=
  ⟨h.one.sublist hA, fun v hv u hu => h.two v (hA.subset hv) u (hX u hu)⟩
theorem Dst.cons {A X : List Value} (h : Dst A X) {u : Value} (hu : ∀ v, v ∈ A → Far v u) : Dst A (u :: X) :=
  ⟨h.one, fun v hv x hx => by
    rcases List.mem_cons.1 hx with rfl | hx
    · exact hu v hv
    · exact h.two v hv x hx⟩
theorem Dst.move {P Q X : List Value} {v : Value} (h : Dst (P ++ v :: Q) X) : Dst (P ++ Q) (v :: X) := by
  have hs : (P ++ Q).Sublist (P ++ v :: Q) := List.Sublist.append_left (List.sublist_cons_self v Q) P
  refine (h.less hs (fun u hu => hu)).cons (fun x hx => ?_)
  have h2 := List.pairwise_append.1 h.one
  have h3 := List.pairwise_cons.1 h2.2.1
  rcases List.mem_append.1 hx with hx | hx
  · exact h2.2.2 x hx v (by simp)
  · exact (h3.1 x hx).symm
theorem Dst.ne {P Q X : List Value} {v : Value} (h : Dst (P ++ v :: Q) X) : (∀ x, x ∈ P ++ Q → Far v x) ∧ ∀ u, u ∈ X → Far v u :=
  ⟨fun x hx => (h.move.two x hx v (by simp)).symm, fun u hu => h.two v (by simp) u hu⟩
structure Fsh (F X Y : List Value) : Prop where
  one : F.Pairwise Far
  two : ∀ v, v ∈ F → ∀ x, x ∈ X → Far v x ∨ x = v
  three : ∀ v, v ∈ F → ∀ x, x ∈ Y → Far v x
theorem Fsh.snoc {F X Y X' Y' : List Value} {v : Value} (h : Fsh F X Y) (hF : ∀ u, u ∈ F → Far v u) (hX : ∀ x, x ∈ X' → (x ∈ X ∧ Far v x) ∨ x = v ∨ (Far v x ∧ ∀ u, u ∈ F → Far u x)) (hY : ∀ x, x ∈ Y' → Far v x ∧ x ∈ Y) : Fsh (F ++ [v]) X' Y' := by
  refine ⟨?_, fun u hu x hx => ?_, fun u hu x hx => ?_⟩
  · rw [List.pairwise_append]
    exact ⟨h.one, by simp, fun a ha c hc => by simp at hc; subst hc; exact (hF a ha).symm⟩
  · rcases List.mem_append.1 hu with h9 | h9
    · rcases hX x hx with ⟨h1, h2⟩ | e | ⟨h1, h2⟩
      · exact h.two u h9 x h1
      · rw [e]; exact .inl (hF u h9).symm
      · exact .inl (h2 u h9)
    · have e9 : u = v := by simpa using h9
      rw [e9]
      rcases hX x hx with ⟨h1, h2⟩ | e | ⟨h1, h2⟩
      · exact .inl h2
      · exact .inr e
      · exact .inl h1
  · rcases List.mem_append.1 hu with h9 | h9
    · exact h.three u h9 x (hY x hx).2
    · have e9 : u = v := by simpa using h9
      rw [e9]; exact (hY x hx).1
structure Ey (w w' : World) (b : Nat) (f f' : Nat → Value) (K K' : List Nat) : Prop where
  t : ∃ G, Touch G w w' ∧ ∀ k, k ∈ G → Own b f k ∨ k ∈ K
  o : ∀ k, Own b f' k → Own b f k ∨ w.heap.size ≤ k
  k : ∀ k, k ∈ K → k ∈ K'
  n : ∀ k, k ∈ K' → k ∈ K ∨ Own b f k ∨ w.heap.size ≤ k
theorem Ex.ey {w w' : World} {b : Nat} {f f' : Nat → Value} {K K' : List Nat} (h : Ex w w' b f f' K K') : Ey w w' b f f' K K' := by
  obtain ⟨G, h1, h2⟩ := h.t
  exact ⟨⟨G, h1, fun k hk => .inl (h2 k hk)⟩, h.o, h.k, fun k hk => (h.n k hk).elim .inl (fun h => .inr (.inr h))⟩
theorem Ey.trans {w w1 w2 : World} {b : Nat} {f f1 f2 : Nat → Value} {K K1 K2 : List Nat} (h : Ey w w1 b f f1 K K1) (g : Ey w1 w2 b f1 f2 K1 K2) : Ey w w2 b f f2 K K2 := by
  obtain ⟨G, h1, h2⟩ := h.t
  obtain ⟨G2, g1, g2⟩ := g.t
  refine ⟨⟨G ++ G2.filter (fun x => decide (x < w.heap.size)), ?_, fun k hk => ?_⟩, fun k hk => ?_, fun k hk => g.k k (h.k k hk), fun k hk => ?_⟩
  · refine (h1.mono (fun k hk => .inl (by simp [hk]))).then g1 (fun x hx => ?_)
    by_cases hlt : x < w.heap.size
    · exact .inl (by simp [hx, hlt])
    · exact .inr (by omega)
  · rcases List.mem_append.1 hk with hk | hk
    · exact h2 k hk
    · simp only [List.mem_filter, decide_eq_true_eq] at hk
      rcases g2 k hk.1 with h3 | h3
      · rcases h.o k h3 with h4 | h4
        · exact .inl h4
        · omega
      · rcases h.n k h3 with h4 | h4 | h4
        · exact .inr h4
        · exact .inl h4
        · omega
  · rcases g.o k hk with h3 | h3
    · exact h.o k h3
    · exact .inr (Nat.le_trans h1.size h3)
  · rcases g.n k hk with h3 | h3 | h3
    · exact h.n k h3
    · rcases h.o k h3 with h4 | h4
      · exact .inr (.inl h4)
      · exact .inr (.inr h4)
    · exact .inr (.inr (Nat.le_trans h1.size h3))
theorem Ez.ey {w w' : World} {b : Nat} {f f' : Nat → Value} {K K' : List Nat} {X : List Value} (h : Ez w w' b f f' K K' X) (hX : ∀ x, x ∈ X → ∀ g, x.ownBlock = some g → g ∈ K) : Ey w w' b f f' K K' := by
  obtain ⟨G, h1, h2⟩ := h.t
  exact ⟨⟨G, h1, fun k hk => (h2 k hk).imp id (fun ⟨x, q1, q2⟩ => hX x q1 k q2)⟩, h.o, h.k, fun k hk => (h.n k hk).elim .inl (fun h => .inr (.inr h))⟩
theorem Prs.keepNe {w w' : World} {K G : List Nat} {A B : List Value} (h : Prs w K A B) (ht : Touch G w w') (hA : ∀ v, v ∈ A → ∀ k, v.ownBlock = some k → k ∉ G) (hB : ∀ v, v ∈ B → ∀ k, v.ownBlock = some k → k ∉ G) : Prs w' K A B :=
  ⟨h.len, fun i v hv => by
    obtain ⟨u, l, h1, h2, h3, h4⟩ := h.at_ i v hv
    exact ⟨u, l, h1, h2.keep ht (hA v (List.mem_of_getElem? hv)), h3.keep ht (hB u (List.mem_of_getElem? h1)), h4⟩⟩
theorem Frs.snoc {w : World} {base : Nat} {K : List Nat} {A : List Value} {ms : List Int} (h : Frs w base K 0 A ms) {l : List Int} {m : Int} {v : Value} (h3 : 0 ≤ m) (h4 : m ≤ 1000000000000000) (h5 : Row w base v l) (h6 : ∀ g, v.ownBlock = some g → g ∈ K) (h8 : l.length ≤ 10000000000000) : Frs w base K 0 (A ++ [v]) (ms ++ [m]) := by
  refine ⟨by simp [h.len], fun i x h0 hx => ?_⟩
  by_cases hi : i < A.length
  · rw [List.getElem?_append_left hi] at hx
    obtain ⟨l', m', q1, q2⟩ := h.at_ i x h0 hx
    exact ⟨l', m', by rw [List.getElem?_append_left (by have := h.len; omega)]; exact q1, q2⟩
  · have hl := (List.getElem?_eq_some_iff.1 hx).1
    simp at hl
    obtain rfl : i = A.length := by omega
    rw [List.getElem?_append_right (Nat.le_refl _)] at hx
    simp at hx
    subst hx
    exact ⟨l, m, by rw [h.len, List.getElem?_append_right (Nat.le_refl _)]; simp, h3, h4, h5, h6, h8⟩
theorem Frs.keepNe {w w' : World} {base : Nat} {K G : List Nat} {A : List Value} {ms : List Int} (h : Frs w base K 0 A ms) (ht : Touch G w w') (hA : ∀ v, v ∈ A → ∀ k, v.ownBlock = some k → k ∉ G) : Frs w' base K 0 A ms :=
  h.keep ht (fun _ hq => hq) (fun i v _ hv => hA v (List.mem_of_getElem? hv))
theorem Frs.nil_ (w : World) (base : Nat) (K : List Nat) : Frs w base K 0 [] [] := ⟨rfl, fun i v _ hv => by simp at hv⟩
theorem Frs.inK {w : World} {base : Nat} {K : List Nat} {A : List Value} {ms : List Int} (h : Frs w base K 0 A ms) {v : Value} (hv : v ∈ A) : ∀ g, v.ownBlock = some g → g ∈ K := by
  obtain ⟨i, hi⟩ := List.getElem?_of_mem hv
  obtain ⟨l, m, h1, h2, h3, h4, h5, h6⟩ := h.at_ i v (Nat.zero_le _) hi
  exact h5
theorem Ex.wts {w w' : World} {base b bs : Nat} {f f' : Nat → Value} {xs : Nat → List Value} {K K' : List Nat} (h : Ex w w' b f f' K K') (hi : Iv w base b f xs K) {A N : List Value} {ms : List Int} (hp : Wts w bs K A N ms) : Wts w' bs K' A N ms := by
  obtain ⟨G, h1, h2⟩ := h.t
  exact hp.keep h1 h.k (fun v hv k hk hm => hi.ownK (h2 k hm) (hp.inA hv k hk)) (fun v hv k hk hm => hi.ownK (h2 k hm) (hp.inN hv k hk))
def full (m : Int) (n : Nat) : List Int := (List.range n).map fun (j : Nat) => m + 3 * (j : Int)
theorem full_length (m : Int) (n : Nat) : (full m n).length = n := by simp [full]
theorem full_step (m : Int) (l : List Int) (i : Nat) (hi : i < l.length) : (ints (full m i ++ l.drop i)).set i (.int .i64 (m + 3 * (i : Int))) = ints (full m (i + 1) ++ l.drop (i + 1)) := by
  apply List.ext_getElem?
  intro j
  rw [List.getElem?_set]
  simp only [ints, List.getElem?_map, List.length_map, List.length_append, full_length, List.length_drop]
  by_cases hj : i = j
  · subst hj
    rw [if_pos rfl, if_pos (by omega), List.getElem?_append_left (by rw [full_length]; omega)]
    simp [full]
  · rw [if_neg hj]
    by_cases hlt : j < i
    · rw [List.getElem?_append_left (by rw [full_length]; exact hlt), List.getElem?_append_left (by rw [full_length]; omega)]
      simp [full, hlt, show j < i + 1 by omega]
    · rw [List.getElem?_append_right (by rw [full_length]; omega), List.getElem?_append_right (by rw [full_length]; omega), full_length, full_length, List.getElem?_drop, List.getElem?_drop]
      congr 2
      omega
structure Mk (w : World) (base b : Nat) (f0 f : Nat → Value) (xs : Nat → List Value) (K : List Nat) (ms1 ds1 fm : List Int) (A N : List Value) (ms ds : List Int) (vA vN vM vD : Value) (n13 k : Nat) : Prop where
  iv : Iv w base b f xs K
  pr : Prs w K (xs 13) (xs 14)
  wt : Wts w base K (xs 15) (xs 16) ms1
  e18 : xs 18 = ints ms1
  e19 : xs 19 = ints ds1
  l19 : ds1.length = (xs 15).length
  fr : Frs w base K 0 (xs 17) fm
  e20 : xs 20 = ints fm
  rs : Wts w base K (A.drop k) (N.drop k) (ms.drop k)
  rA : Rd w K vA A
  rN : Rd w K vN N
  rM : Rd w K vM (ints ms)
  rD : Rd w K vD (ints ds)
  dst : Dst (xs 15 ++ A.drop k) (xs 13 ++ xs 14 ++ xs 16 ++ xs 17 ++ N.drop k ++ [vA, vN, vM, vD])
  fs : Fsh (xs 17) (xs 13 ++ xs 14) (xs 16 ++ N.drop k)
  fx : ∀ j, j < 13 ∨ 20 < j → f j = f0 j
  ln : (xs 15).length + (xs 17).length = k ∧ (xs 13).length = n13 + (xs 17).length
theorem Mk.kept {w w' : World} {base b : Nat} {f0 f f' : Nat → Value} {xs : Nat → List Value} {K : List Nat} {ms1 ds1 fm : List Int} {A N : List Value} {ms ds : List Int} {vA vN vM vD : Value} {n13 k : Nat}
    (h : Mk w base b f0 f xs K ms1 ds1 fm A N ms ds vA vN vM vD n13 k) {v u : Value} {m d : Int} (hv : A[k]? = some v) (hu : N[k]? = some u) (hm : ms[k]? = some m) {xa xb xc xd : Nat → List Value}
    (ea : xa = putl xs 15 (xs 15 ++ [v])) (eb : xb = putl xa 16 (xa 16 ++ [u])) (ec : xc = putl xb 18 (xb 18 ++ [.int .i64 m])) (ed : xd = putl xc 19 (xc 19 ++ [.int .i64 d]))
    (hI : Iv w' base b f' xd K) (hE : Ex w w' b f f' K K) (hf : ∀ j, j < 13 ∨ 20 < j → f' j = f j) :
    Mk w' base b f0 f' xd K (ms1 ++ [m]) (ds1 ++ [d]) fm A N ms ds vA vN vM vD n13 (k + 1) := by
  have x13 : xd 13 = xs 13 := by subst ed ec eb ea; simp [putl]
  have x14 : xd 14 = xs 14 := by subst ed ec eb ea; simp [putl]
  have x15 : xd 15 = xs 15 ++ [v] := by subst ed ec eb ea; simp [putl]
  have x16 : xd 16 = xs 16 ++ [u] := by subst ed ec eb ea; simp [putl]
  have x17 : xd 17 = xs 17 := by subst ed ec eb ea; simp [putl]
  have x18 : xd 18 = ints (ms1 ++ [m]) := by subst ed ec eb ea; simp [putl, h.e18, ints]
  have x19 : xd 19 = ints (ds1 ++ [d]) := by subst ed ec eb ea; simp [putl, h.e19, ints]
  have x20 : xd 20 = xs 20 := by subst ed ec eb ea; simp [putl]
  clear ea eb ec ed
  have hkl : k < A.length := (List.getElem?_eq_some_iff.1 hv).1
  have hdA : A.drop k = v :: A.drop (k + 1) := by
    rw [List.drop_eq_getElem_cons hkl]
    rw [List.getElem?_eq_getElem hkl] at hv; simp at hv; rw [hv]
  have hkn : k < N.length := (List.getElem?_eq_some_iff.1 hu).1
  have hdN : N.drop k = u :: N.drop (k + 1) := by
    rw [List.drop_eq_getElem_cons hkn]
    rw [List.getElem?_eq_getElem hkn] at hu; simp at hu; rw [hu]
  have hrs := hE.wts h.iv h.rs
  obtain ⟨u', l, m', q1, q2, q3, q4, q5, q6, q7, q8⟩ := hrs.at_ 0 v (by rw [List.getElem?_drop]; simpa using hv)
  rw [List.getElem?_drop] at q1 q2
  simp only [Nat.add_zero] at q1 q2
  rw [hu] at q1; rw [hm] at q2
  simp at q1 q2
  subst q1 q2
  refine ⟨hI, ?_, ?_, x18, x19, ?_, ?_, by rw [x20]; exact h.e20, hrs.tail, hE.rd h.iv h.rA, hE.rd h.iv h.rN, hE.rd h.iv h.rM, hE.rd h.iv h.rD, ?_, ?_, fun j hj => (hf j hj).trans (h.fx j hj), ?_⟩
  · rw [x13, x14]; exact hE.prs h.iv h.pr
  · rw [x15, x16]; exact (hE.wts h.iv h.wt).snoc q3 q4 q5 q6 q7 q8
  · rw [x15]; simp [h.l19]
  · rw [x17]; exact hE.frs h.iv h.fr
  · rw [x13, x14, x15, x16, x17]
    have h1 := h.dst
    rw [hdA] at h1
    refine ⟨by simpa using h1.one, fun y hy z hz => h1.two y (by simpa using hy) z ?_⟩
    rw [hdN]
    simp only [List.mem_append, List.mem_cons, List.not_mem_nil, or_false] at hz ⊢
    rcases hz with ((((hz | hz) | (hz | hz)) | hz) | hz) | hz
    all_goals simp [hz]
  · rw [x13, x14, x16, x17]
    refine ⟨h.fs.one, h.fs.two, fun y hy z hz => h.fs.three y hy z ?_⟩
    rw [hdN]
    simp only [List.mem_append, List.mem_cons, List.not_mem_nil, or_false] at hz ⊢
    rcases hz with (hz | hz) | hz
    all_goals simp [hz]
  · rw [x15, x17, x13]
    have := h.ln
    exact ⟨by simp; omega, this.2⟩
theorem Mk.marked {w wb w' : World} {base b : Nat} {f0 f f' : Nat → Value} {xs : Nat → List Value} {K : List Nat} {ms1 ds1 fm : List Int} {A N : List Value} {ms ds : List Int} {vA vN vM vD : Value} {n13 k kk : Nat}
    (h : Mk w base b f0 f xs K ms1 ds1 fm A N ms ds vA vN vM vD n13 k) {v u2 : Value} {m : Int} {l' : List Int} (hv : A[k]? = some v) (hm : ms[k]? = some m) (h3 : 0 ≤ m) (h4 : m ≤ 1000000000000000)
    (hgK : ∀ g, v.ownBlock = some g → g ∈ K) (h16 : l'.length ≤ 10000000000000) (ht : Touch v.ownBlock.toList w wb) (hlon : Row wb base v l') {xa xb xc xd : Nat → List Value}
    (ea : xa = putl xs 13 (xs 13 ++ [v])) (eb : xb = putl xa 14 (xa 14 ++ [u2])) (ec : xc = putl xb 17 (xb 17 ++ [v])) (ed : xd = putl xc 20 (xc 20 ++ [.int .i64 m]))
    (hI : Iv w' base b f' xd (kk :: K)) (hE : Ex wb w' b f f' K (kk :: K)) (hu2 : Rd w' (kk :: K) u2 (ints l')) (hkk : u2.ownBlock = some kk) (hkn : w.heap.size ≤ kk) (hf : ∀ j, j < 13 ∨ 20 < j → f' j = f j) :
    Mk w' base b f0 f' xd (kk :: K) ms1 ds1 (fm ++ [m]) A N ms ds vA vN vM vD n13 (k + 1) ∧ Ey w w' b f f' K (kk :: K) := by
  have x13 : xd 13 = xs 13 ++ [v] := by subst ed ec eb ea; simp [putl]
  have x14 : xd 14 = xs 14 ++ [u2] := by subst ed ec eb ea; simp [putl]
  have x15 : xd 15 = xs 15 := by subst ed ec eb ea; simp [putl]
  have x16 : xd 16 = xs 16 := by subst ed ec eb ea; simp [putl]
  have x17 : xd 17 = xs 17 ++ [v] := by subst ed ec eb ea; simp [putl]
  have x18 : xd 18 = xs 18 := by subst ed ec eb ea; simp [putl]
  have x19 : xd 19 = xs 19 := by subst ed ec eb ea; simp [putl]
  have x20 : xd 20 = ints (fm ++ [m]) := by subst ed ec eb ea; simp [putl, h.e20, ints]
  clear ea eb ec ed
  have hkl : k < A.length := (List.getElem?_eq_some_iff.1 hv).1
  have hdA : A.drop k = v :: A.drop (k + 1) := by
    rw [List.drop_eq_getElem_cons hkl]
    rw [List.getElem?_eq_getElem hkl] at hv; simp at hv; rw [hv]
  have hD := h.dst
  rw [hdA] at hD
  obtain ⟨n1, n2⟩ := hD.ne
  have sN : ∀ y, y ∈ N.drop (k + 1) → y ∈ N.drop k := fun y hy => by
    rw [← List.drop_drop] at hy
    exact List.mem_of_mem_drop hy
  have ne1 : ∀ y, y ∈ xs 15 ++ A.drop (k + 1) → ∀ q, y.ownBlock = some q → q ∉ v.ownBlock.toList := fun y hy q hq hm => n1 y hy q (by simpa using hm) hq
  have ne2 : ∀ y, y ∈ xs 13 ++ xs 14 ++ xs 16 ++ xs 17 ++ N.drop k ++ [vA, vN, vM, vD] → ∀ q, y.ownBlock = some q → q ∉ v.ownBlock.toList := fun y hy q hq hm => n2 y hy q (by simpa using hm) hq
  have hgo : ∀ q, q ∈ v.ownBlock.toList → ¬ Own b f q := fun q hq ho => h.iv.ownK ho (hgK q (by simpa using hq))
  have iv1 : Iv wb base b f xs K := h.iv.keep ht hgo
  have pr1 : Prs wb K (xs 13) (xs 14) := h.pr.keepNe ht (fun y hy => ne2 y (by simp [hy])) (fun y hy => ne2 y (by simp [hy]))
  have wt1 : Wts wb base K (xs 15) (xs 16) ms1 := h.wt.keep ht (fun _ h => h) (fun y hy => ne1 y (by simp [hy])) (fun y hy => ne2 y (by simp [hy]))
  have fr1 : Frs wb base K 0 (xs 17) fm := h.fr.keepNe ht (fun y hy => ne2 y (by simp [hy]))
  have rs1 : Wts wb base K (A.drop (k + 1)) (N.drop (k + 1)) (ms.drop (k + 1)) := h.rs.tail.keep ht (fun _ h => h) (fun y hy => ne1 y (by simp [hy])) (fun y hy => ne2 y (by simp [sN y hy]))
  have lon2 : Row w' base v l' := by
    obtain ⟨G, t1, t2⟩ := hE.t
    exact row_keep2 hlon t1 (fun g hg hm => iv1.ownK (t2 g hm) (hgK g hg))
  have hgK2 : ∀ g, v.ownBlock = some g → g ∈ kk :: K := fun g hg => by simp [hgK g hg]
  have far2 : ∀ y, (∀ g, y.ownBlock = some g → g ∈ K) → Far y u2 := fun y hy g hg e => by
    rw [hkk] at e; simp at e; subst e
    have := (h.iv.kin _ (hy _ hg)).2
    omega
  refine ⟨⟨hI, ?_, ?_, by rw [x18]; exact h.e18, by rw [x19]; exact h.e19, by rw [x15]; exact h.l19, ?_, x20, hE.wts iv1 rs1, hE.rd iv1 (h.rA.keep ht (ne2 vA (by simp))), hE.rd iv1 (h.rN.keep ht (ne2 vN (by simp))), hE.rd iv1 (h.rM.keep ht (ne2 vM (by simp))), hE.rd iv1 (h.rD.keep ht (ne2 vD (by simp))), ?_, ?_, fun j hj => (hf j hj).trans (h.fx j hj), ?_⟩, ?_⟩
  · rw [x13, x14]
    exact (hE.prs iv1 pr1).snoc _ _ l' (Rd.row lon2 hgK2) hu2 (by omega)
  · rw [x15, x16]; exact hE.wts iv1 wt1
  · rw [x17]; exact (hE.frs iv1 fr1).snoc h3 h4 lon2 hgK2 h16
  · rw [x13, x14, x15, x16, x17]
    have hn : ∀ y, y ∈ xs 15 ++ A.drop (k + 1) → Far y u2 := fun y hy => far2 y (by
      rcases List.mem_append.1 hy with hy | hy
      · exact h.wt.inA hy
      · exact h.rs.tail.inA hy)
    have h1 := hD.move.cons hn
    refine ⟨h1.one, fun y hy z hz => h1.two y hy z ?_⟩
    simp only [List.mem_append, List.mem_cons, List.not_mem_nil, or_false] at hz ⊢
    rcases hz with (((((hz | hz) | (hz | hz)) | hz) | (hz | hz)) | hz) | hz
    all_goals first | (simp [hz]; done) | (simp [sN z hz])
  · rw [x13, x14, x16, x17]
    refine h.fs.snoc (fun u hu => n2 u (by simp [hu])) (fun x hx => ?_) (fun x hx => ?_)
    · simp only [List.mem_append, List.mem_cons, List.not_mem_nil, or_false] at hx
      rcases hx with (hx | hx) | (hx | hx)
      · exact .inl ⟨by simp [hx], n2 x (by simp [hx])⟩
      · exact .inr (.inl hx)
      · exact .inl ⟨by simp [hx], n2 x (by simp [hx])⟩
      · rw [hx]
        exact .inr (.inr ⟨far2 v hgK, fun u hu => far2 u (h.fr.inK hu)⟩)
    · rcases List.mem_append.1 hx with hx | hx
      · exact ⟨n2 x (by simp [hx]), by simp [hx]⟩
      · exact ⟨n2 x (by simp [sN x hx]), by simp [sN x hx]⟩
  · rw [x15, x17, x13]
    have := h.ln
    exact ⟨by simp; omega, by simp; omega⟩
  · have e1 : Ey w wb b f f K K := ⟨⟨_, ht, fun q hq => .inr (hgK q (by simpa using hq))⟩, fun q hq => .inl hq, fun q hq => hq, fun q hq => .inl hq⟩
    exact e1.trans hE.ey
end Go.Proofs.YtlkengnefhhppaaGreatDoor.Kg
