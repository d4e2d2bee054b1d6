/-
  growInts, walked.
-/
import Derived.Test.YtbgnagjhkfkekaaGreatDoorPKa
set_option linter.unusedVariables false
set_option maxRecDepth 20000
namespace Go.Proofs.YtbgnagjhkfkekaaGreatDoor.Kg
open Go.RowKit

theorem List.mem_take_more {x : Value} {A : List Value} {k : Nat} (h : x ∈ A.take k) : x ∈ A.take (k + 1) := (List.take_prefix_take_left (Nat.le_succ k)).subset h

theorem List.mem_take_self {x : Value} {A : List Value} {k : Nat} (h : A[k]? = some x) : x ∈ A.take (k + 1) := by
  refine List.mem_of_getElem? (i := k) ?_
  rw [List.getElem?_take, if_pos (by omega)]; exact h

theorem Frs.more {w : World} {base k : Nat} {K : List Nat} {A : List Value} {ms : List Int} (h : Frs w base K k A ms) (g : Nat) : Frs w base (g :: K) k A ms :=
  h.keep (Touch.refl [] w) (fun q hq => by simp [hq]) (fun _ _ _ _ _ _ hm => by cases hm)

set_option maxHeartbeats 8000000 in
theorem growInts_any {w : World} {base b : Nat} {f : Nat → Value} {xs : Nat → List Value} {K : List Nat} {ms : List Int} (h : Iv w base b f xs K) (hbase : base ≤ w.heap.size) (h1 : Prs w K (xs 13) (xs 14)) (hF : Frs w base K 0 (xs 17) ms) (hPw : (xs 17).Pairwise Far) (hSe : ∀ v, v ∈ xs 17 → ∀ x, x ∈ xs 13 ++ xs 14 → Far v x ∨ x = v) (hM : xs 20 = ints ms) (n1 : (xs 13).length + (xs 17).length < 4000000000) (n2 : (xs 17).length < 4000000000) :
    Calls Tryz.prog 116 #[.pointer (some ⟨b, 0, none⟩)] w fun e w' => e = .returned (.tuple #[]) ∧ ∃ f' xs' K', Iv w' base b f' xs' K' ∧ Prs w' K' (xs' 13) (xs' 14) ∧ Ez w w' b f f' K K' (xs 17) ∧ (xs' 13).length = (xs 13).length + (xs 17).length ∧ xs' 17 = [] ∧ xs' 20 = [] ∧ (∀ j, j ≠ 13 → j ≠ 14 → j ≠ 17 → j ≠ 20 → f' j = f j ∧ xs' j = xs j) ∧ (∀ v, v ∈ xs' 13 ++ xs' 14 → v ∈ xs 13 ++ xs 14 ∨ (∃ q, v.ownBlock = some q ∧ w.heap.size ≤ q) ∨ ∃ x, x ∈ xs 17 ∧ v.ownBlock = x.ownBlock) := by
  obtain ⟨i0, i1, hI⟩ := inf_ex
  have HI : Hid (Inf i0 i1) := hI
  have HF : Hid (Frs w base K 0 (xs 17) ms) := hF
  have HM : Hid (xs 20 = ints ms) := hM
  have HV : Hid (Iv w base b f xs K) := h
  have HP : Hid (Prs w K (xs 13) (xs 14)) := h1
  have HPw : Hid ((xs 17).Pairwise Far) := hPw
  have HSe : Hid (∀ v, v ∈ xs 17 → ∀ x, x ∈ xs 13 ++ xs 14 → Far v x ∨ x = v) := hSe
  have hml : ms.length = (xs 17).length := hF.len.symm
  obtain ⟨a17, p17, e17⟩ := row_sl (h.own 17 (by decide) (by decide))
  obtain ⟨a20, p20, e20⟩ := row_sl (h.own 20 (by decide) (by decide))
  rw [hM, show (ints ms).length = ms.length by simp [ints], hml] at e20
  have E17 : Hid (f 17 = .slice a17 (xs 17).length p17) := e17
  have E20 : Hid (f 20 = .slice a20 (xs 17).length p20) := e20
  have HBs : Hid (base ≤ w.heap.size) := hbase
  clear h h1 hF hM hI e17 e20 hbase hml hPw hSe
  go_enter Tryz.func116, Tryz.ntmps116
  go_wp2
  go_loopw [2] (fun i wr => ∃ k : Nat, k ≤ (xs 17).length ∧ i = .int .i64 k ∧ (∃ f1 xs1 K1, Iv wr base b f1 xs1 K1 ∧ Prs wr K1 (xs1 13) (xs1 14) ∧ Ez w wr b f f1 K K1 (xs 17) ∧ (xs1 13).length = (xs 13).length + k ∧ (∀ j, j ≠ 13 → j ≠ 14 → f1 j = f j ∧ xs1 j = xs j) ∧ (∀ v, v ∈ xs1 13 ++ xs1 14 → v ∈ xs 13 ++ xs 14 ∨ (∃ q, v.ownBlock = some q ∧ w.heap.size ≤ q) ∨ ∃ x, x ∈ (xs 17).take k ∧ v.ownBlock = x.ownBlock) ∧ Frs wr base K1 k (xs 17) ms)) (fun i _ => (xs 17).length - (intOf i).toNat)
  case atStart => exact ⟨0, Nat.zero_le _, rfl, f, xs, K, HV.out, HP.out, (Ex.refl _ _ _ _).ez _, rfl, fun j _ _ => ⟨rfl, rfl⟩, fun v hv => .inl hv, HF.out⟩
  case round =>
    obtain ⟨k, hk, rfl, f1, xs1, K1, hV1, hP1, hE1, hl1, hS1, hN1, hFr⟩ := hrel
    have c17 := hV1.bk.cell 17
    have c20 := hV1.bk.cell 20
    rw [(hS1 17 (by decide) (by decide)).1, E17.out] at c17
    rw [(hS1 20 (by decide) (by decide)).1, E20.out] at c20
    have HV1 : Hid (Iv wr base b f1 xs1 K1) := hV1
    have HP1 : Hid (Prs wr K1 (xs1 13) (xs1 14)) := hP1
    have HE1 : Hid (Ez w wr b f f1 K K1 (xs 17)) := hE1
    have HS1 : Hid ((xs1 13).length = (xs 13).length + k ∧ ∀ j, j ≠ 13 → j ≠ 14 → f1 j = f j ∧ xs1 j = xs j) := ⟨hl1, hS1⟩
    have HN1 : Hid (∀ v, v ∈ xs1 13 ++ xs1 14 → v ∈ xs 13 ++ xs 14 ∨ (∃ q, v.ownBlock = some q ∧ w.heap.size ≤ q) ∨ ∃ x, x ∈ (xs 17).take k ∧ v.ownBlock = x.ownBlock) := hN1
    have HSz : Hid (w.heap.size ≤ wr.heap.size) := hE1.size
    have HSz2 : Hid (w.heap.size ≤ wr.heap.size) := hE1.size
    clear hN1
    have hbr : base ≤ wr.heap.size := by have := HBs.out; have := hE1.size; omega
    have HBr : Hid (base ≤ wr.heap.size) := hbr
    have HFr : Hid (Frs wr base K1 k (xs 17) ms) := hFr
    clear hV1 hP1 hE1 hl1 hS1 hbr hFr
    by_cases hlt : k < (xs 17).length
    · obtain ⟨v, hv⟩ : ∃ v, (xs 17)[k]? = some v := ⟨_, List.getElem?_eq_getElem hlt⟩
      obtain ⟨l, m, hm, hm0, hm1, hrow, hvK, hl9⟩ := HFr.out.at_ k v (Nat.le_refl _) hv
      have hr17 := HV1.out.own 17 (by decide) (by decide)
      rw [(HS1.out.2 17 (by decide) (by decide)).1, (HS1.out.2 17 (by decide) (by decide)).2, E17.out] at hr17
      have hr20 := HV1.out.own 20 (by decide) (by decide)
      rw [(HS1.out.2 20 (by decide) (by decide)).1, (HS1.out.2 20 (by decide) (by decide)).2, E20.out, HM.out] at hr20
      obtain ⟨g, cap, e1, c1⟩ := row_val hr17 k v hv
      obtain ⟨g2, cap2, e2, c2⟩ := row_val hr20 k (.int .i64 m) (by simp [ints, hm])
      simp only [Value.slice.injEq, true_and] at e1 e2
      obtain ⟨rfl, rfl⟩ := e1
      obtain ⟨rfl, hx9, rfl⟩ := e2
      clear hx9
      have hki : (k : Int) < (xs 17).length := by omega
      have HK : Hid ((xs 17)[k]? = some v) := hv
      have HRow : Hid (Row wr base v l) := hrow
      have HvK : Hid (∀ g, v.ownBlock = some g → g ∈ K1) := hvK
      have HL : Hid (l.length ≤ 10000000000000) := hl9
      have hvm : v ∈ xs 17 := List.mem_of_getElem? hv
      have HvLt : Hid (∀ g, v.ownBlock = some g → g < w.heap.size) := fun g hg => by
        obtain ⟨_, _, _, _, _, _, q, _⟩ := HF.out.at_ k v (Nat.zero_le _) hv
        exact (HV.out.kin g (q g hg)).2
      have HFar : Hid (∀ (i : Nat) x, k + 1 ≤ i → (xs 17)[i]? = some x → ∀ g, x.ownBlock = some g → g ∉ v.ownBlock.toList) := fun i x hi hx g hg hm => by
        have hvo : v.ownBlock = some g := by simpa using hm
        obtain ⟨hi1, hi2⟩ := List.getElem?_eq_some_iff.1 hx
        obtain ⟨hk1, hk2⟩ := List.getElem?_eq_some_iff.1 hv
        have := List.pairwise_iff_getElem.1 HPw.out k i hk1 hi1 (by omega)
        rw [hk2, hi2] at this
        exact this g hvo hg
      have HSv : Hid (∀ x, x ∈ xs1 13 ++ xs1 14 → Far v x ∨ x = v) := fun x hx => by
        rcases HN1.out x hx with h | ⟨q, e, hq⟩ | ⟨y, hy, e⟩
        · exact HSe.out v hvm x h
        · exact .inl (fun g hg hm => by rw [e] at hm; simp at hm; subst hm; have := HvLt.out _ hg; omega)
        · refine .inl (fun g hg hm => ?_)
          rw [e] at hm
          obtain ⟨i, hi⟩ := List.getElem?_of_mem hy
          rw [List.getElem?_take] at hi
          split at hi
          · rename_i hik
            obtain ⟨hi1, hi2⟩ := List.getElem?_eq_some_iff.1 hi
            obtain ⟨hk1, hk2⟩ := List.getElem?_eq_some_iff.1 hv
            have := List.pairwise_iff_getElem.1 HPw.out i k hi1 hk1 hik
            rw [hk2, hi2] at this
            exact this g hm hg
          · cases hi
      obtain ⟨va, vc, hve⟩ := row_sl hrow
      clear hr17 hr20 hv hm hrow hvK hl9 hvm
      subst hve
      go_upto_region 6 with fail
      obtain ⟨w0, hw0⟩ : ∃ w0, w0 = wr := ⟨_, rfl⟩
      subst hw0
      have HVlt : Hid (∀ g, (Value.slice va l.length vc).ownBlock = some g → g < w0.heap.size) := fun g hg => Nat.lt_of_lt_of_le (HvLt.out g hg) HSz.out
      clear c17 c20 c1 c2
      go_loopw [4, 5] (fun gl0 i wr2 => ∃ gl, gl = gl0 ∧ ∃ q : Nat, q ≤ 30 ∧ i = .int .i64 q ∧ Gi w0 wr2 base (.slice va l.length vc) l gl q m) (fun _ i _ => 30 - (intOf i).toNat)
      case atStart => exact ⟨_, rfl, 0, by omega, rfl, Gi.start HRow.out m⟩
      case round =>
        obtain ⟨gl, hgl, q, hq, rfl, hG⟩ := hrel
        subst hgl
        have hl9 := HL.out
        by_cases hq30 : q < 30
        · have hqi : (q : Int) < 30 := by omega
          have HG : Hid (Gi w0 wr base (.slice va l.length vc) l gl q m) := hG
          obtain ⟨ga, gc, rfl⟩ := row_sl hG.row
          have Hbw : Hid (base ≤ wr.heap.size) := Nat.le_trans HBr.out hG.t.size
          clear hG
          go_wp2_with (at_builtin; refine wpList_append_row rfl _ _ 27 rfl base 3 i0 (.int .i64 0) 8 Tryz.underlying27 HI.out.a0 HI.out.a1 HI.out.a2 HI.out.a3 rfl _ _ _ rfl (HG.out.row.alloc _) (some ⟨wr.heap.size, 0, none⟩) 1 1 [.int .i64 (m + 6 + 5 * (q : Int))] rfl rfl (fun j u hj => ⟨_, rfl, cell_one_new _ _ _ j u hj⟩) (by simp [Value.oneCell']) (by simp [maxLen]; omega) (by omega) (by have := Hbw.out; simp; omega) ?_)
          intro v' w1 hown' hgrow hnil hat hold
          have HG1 : Hid (Gi w0 w1 base (.slice va l.length vc) l v' (q + 1) m) := HG.out.step HVlt.out (by simpa [ints] using hown') hgrow (by simpa using hat) (by simpa [ints] using hold)
          obtain ⟨gg, cc, rfl⟩ := row_sl hown'
          clear hown' hgrow hat hold hnil
          go_wp2
          go_roundw
          case rel => exact ⟨_, rfl, q + 1, by omega, by go_num, HG1.out⟩
          case measure => simp [intOf]; omega
        · obtain rfl : q = 30 := by omega
          have HG : Hid (Gi w0 wr base (.slice va l.length vc) l gl 30 m) := hG
          obtain ⟨gg, gc, rfl⟩ := ownsRow_some hG.row (by omega)
          have HT2 : Hid (Touch (Value.slice va l.length vc).ownBlock.toList w0 wr) := hG.t
          have Hat : Hid ((some gg : Option Nat) = (Value.slice va l.length vc).ownBlock ∨ w0.heap.size ≤ gg) := by
            rcases hG.at_ with e | ⟨g, e, hge⟩
            · exact (.inl e : _ ∨ _)
            · simp only [Value.ownBlock, Option.some.injEq] at e; subst e; exact (.inr hge : _ ∨ _)
          have hggl := hG.row.lt gg rfl
          have hV1k : Iv wr base b f1 xs1 K1 := HV1.out.keep hG.t (fun q hq ho => HV1.out.ownK ho (HvK.out q (by simpa using hq)))
          have HV2 : Hid (Iv wr base b f1 xs1 (gg :: K1)) := hV1k.more hggl.1 hggl.2 (fun ho => by
            rcases Hat.out with e | e
            · exact HV1.out.ownK ho (HvK.out gg e.symm)
            · have := (HV1.out.ownLt ho).2; omega)
          have HE2 : Hid (Ez w0 wr b f1 f1 K1 (gg :: K1) (xs 17)) := ⟨⟨_, hG.t, fun q hq => .inr ⟨_, List.mem_of_getElem? HK.out, by simpa using hq⟩⟩, fun q hq => .inl hq, fun q hq => by simp [hq], fun q hq => by
            rcases List.mem_cons.1 hq with rfl | hq
            · rcases Hat.out with e | e
              · exact .inl (HvK.out _ e.symm)
              · exact .inr e
            · exact .inl hq⟩
          have HP2 : Hid (Prs wr K1 (xs1 13) (xs1 14)) := HP1.out.grow hG.t HRow.out hG.vr HSv.out
          have HRd : Hid (Rd wr (gg :: K1) (.slice (some ⟨gg, 0, none⟩) (l.length + 30) gc) (ints (l ++ lay m 30))) := Rd.row hG.row (fun g hg => by simp [Value.ownBlock] at hg; simp [hg])
          have Hgg : Hid (w0.heap.size ≤ wr.heap.size) := hG.t.size
          clear hG hggl hV1k
          go_upto_region 9 with fail
          go_cut [] from 41 to 50 (fun wc => ∃ v', Iv wc base b (put (f1) 13 v') (putl (xs1) 13 ((xs1) 13 ++ [.slice (some ⟨gg, 0, none⟩) (l.length + 30) gc])) (gg :: K1) ∧ Ex wr wc b (f1) (put (f1) 13 v') (gg :: K1) (gg :: K1))
          case first =>
            obtain ⟨aj, pj, ej⟩ := row_sl (HV2.out.own 13 (by decide) (by decide))
            have cj := HV2.out.bk.cell 13
            rw [ej] at cj
            have hrow := HV2.out.own 13 (by decide) (by decide)
            rw [ej] at hrow
            have Ej : Hid ((f1) 13 = .slice aj ((xs1) 13).length pj) := ej
            have Hrow : Hid (wr.ownsRow base 27 1 (.slice aj ((xs1) 13).length pj) ((xs1) 13).length ((xs1) 13)) := hrow
            have hnj : ((xs1) 13).length < 4000000000 := by have := HS1.out.1; omega
            clear ej hrow 
            go_wp2_with (at_builtin; refine wpList_append_own_at _ rfl _ _ 40 rfl base 27 i1 (.slice none 0 0) 1 24 Tryz.underlying40 HI.out.b0 HI.out.b1 HI.out.b2 HI.out.b3 rfl (by decide) _ _ _ rfl (Hrow.out.alloc _) ⟨wr.heap.size, 0, none⟩ 1 1 [.slice (some ⟨gg, 0, none⟩) (l.length + 30) gc] rfl rfl (cell_one_new _ _ _) (by simp [Value.oneCell']) (by simp [maxLen]; omega) (by omega) (by have := HV2.out.lo; have := HV2.out.bk.lt; simp; omega) ?_)
            intro v' w1 hown' hgrow _ hat
            have hbk1 := grow_bk hgrow HV2.out.bk (by rw [← Ej.out]; exact HV2.out.rb 13 (by decide) (by decide))
            have dj := hbk1.cell 13
            rw [Ej.out] at dj
            have fj := hbk1.frozen 13
            have hres := Iv.appEx HV2.out 13 (by decide) (by decide) (.slice (some ⟨gg, 0, none⟩) (l.length + 30) gc) v' hown' (by rw [Ej.out]; exact (Touch.alloc _ _ _).trans (Touch.grown hgrow (fun k hk => by simp [hk]))) (by rw [Ej.out]; rcases hat with h | h; exact .inl h; exact .inr ⟨_, h, by simp⟩)
            have HR : Hid (Iv (w1.setCell ⟨b, 13, none⟩ v') base b (put (f1) 13 v') (putl (xs1) 13 ((xs1) 13 ++ [.slice (some ⟨gg, 0, none⟩) (l.length + 30) gc])) (gg :: K1) ∧ Ex wr (w1.setCell ⟨b, 13, none⟩ v') b (f1) (put (f1) 13 v') (gg :: K1) (gg :: K1)) := hres
            obtain ⟨gq, cq, rfl⟩ := row_sl hown'
            clear hown' hgrow hat hbk1 hres cj
            go_wp2_with fail
            go_meet
            exact ⟨_, HR.out⟩
          case rest =>
          obtain ⟨v13, hV3, hE3⟩ := hcut
          obtain ⟨w2, hw2⟩ : ∃ w2, w2 = wc := ⟨_, rfl⟩
          subst hw2
          have HV3 : Hid (Iv w2 base b (put f1 13 v13) (putl xs1 13 (xs1 13 ++ [.slice (some ⟨gg, 0, none⟩) (l.length + 30) gc])) (gg :: K1)) := hV3
          have HE3 : Hid (Ex wr w2 b f1 (put f1 13 v13) (gg :: K1) (gg :: K1)) := hE3
          have HRd3 : Hid (Rd w2 (gg :: K1) (.slice (some ⟨gg, 0, none⟩) (l.length + 30) gc) (ints (l ++ lay m 30))) := hE3.rd HV2.out HRd.out
          clear hV3 hE3
          go_upto_region 10 with fail
          obtain ⟨aj, pj, ej⟩ := row_sl (HV3.out.own 14 (by decide) (by decide))
          have cj := HV3.out.bk.cell 14
          rw [ej] at cj
          have cja : (w2.alloc (.cells #[] 3)).cell? ⟨b, 14, none⟩ = some (.slice aj ((putl xs1 13 (xs1 13 ++ [.slice (some ⟨gg, 0, none⟩) (l.length + 30) gc])) 14).length pj) := Lib.cell?_alloc_some _ cj
          have hrow := HV3.out.own 14 (by decide) (by decide)
          rw [ej] at hrow
          have Ej : Hid ((put f1 13 v13) 14 = .slice aj ((putl xs1 13 (xs1 13 ++ [.slice (some ⟨gg, 0, none⟩) (l.length + 30) gc])) 14).length pj) := ej
          have Hrow : Hid (w2.ownsRow base 27 1 (.slice aj ((putl xs1 13 (xs1 13 ++ [.slice (some ⟨gg, 0, none⟩) (l.length + 30) gc])) 14).length pj) ((putl xs1 13 (xs1 13 ++ [.slice (some ⟨gg, 0, none⟩) (l.length + 30) gc])) 14).length ((putl xs1 13 (xs1 13 ++ [.slice (some ⟨gg, 0, none⟩) (l.length + 30) gc])) 14)) := hrow
          have hnj : ((putl xs1 13 (xs1 13 ++ [.slice (some ⟨gg, 0, none⟩) (l.length + 30) gc])) 14).length < 4000000000 := by rw [putl_ne _ _ (by decide)]; have := HS1.out.1; have := HP1.out.len; omega
          have hln : (l.length + 30) ≤ 11000000000000 := by have := HL.out; omega
          have Hln : Hid ((ints (l ++ lay m 30)).length = (l.length + 30) ∧ 0 < (l.length + 30)) := by exact (⟨by simp [ints], by omega⟩ : (ints (l ++ lay m 30)).length = l.length + 30 ∧ 0 < l.length + 30)
          have Hb : Hid (b < w2.heap.size ∧ base ≤ w2.heap.size) := ⟨HV3.out.bk.lt, by have := HV3.out.lo; have := HV3.out.bk.lt; omega⟩
          have Hsrc : Hid (∀ (i : Nat) x, (ints (l ++ lay m 30))[i]? = some x → w2.cell? ⟨gg, i, none⟩ = some x) := by (
            obtain ⟨g9, c9, e9, _, h9⟩ := HRd3.out
            intro i x hi
            obtain ⟨g8, e8, c8⟩ := h9 i x hi
            simp only [Value.slice.injEq] at e9
            rw [e8] at e9
            simp only [Option.some.injEq, Addr.mk.injEq, and_true] at e9
            rw [e9.1]
            exact c8)
          clear ej hrow 
          go_region_law (first
            | (refine step_append_own_at rfl (.tmp 56) (.tmp 57) 27 rfl w2.heap.size 3 i0 (.int .i64 0) 1 8 Tryz.underlying27 HI.out.a0 HI.out.a1 HI.out.a2 HI.out.a3 rfl (by decide) (.slice (some ⟨w2.heap.size, 0, none⟩) 0 0) 0 [] rfl (World.ownsRow_lit w2.drew #[] 0 (Nat.le_refl _) (by simp [maxLen]) rfl) ⟨gg, 0, none⟩ (l.length + 30) (gc) (ints (l ++ lay m 30)) rfl (by rw [Hln.out.1, Nat.mul_one]) (fun i x hi => by rw [Addr.add_mid, Nat.zero_add]; exact Lib.cell?_alloc_some _ (Hsrc.out i x hi)) (ints_one _) (by simp [maxLen]; omega) (by omega) (by simp) ?_
               intro u w1 ho1 hg1 hat1
               have hg1' : (w2.drew.alloc (.cells #[] 3)).grownBy w1 (some w2.heap.size) := hg1
               have hbk1 := grow_bk hg1' (show Bk w2.drew b (put f1 13 v13) from HV3.out.bk) (by simp; have := Hb.out.1; omega)
               have dj := hbk1.cell 14
               rw [Ej.out] at dj
               have dja : (w1.alloc (.cells #[u] 27)).cell? ⟨b, 14, none⟩ = some (.slice aj ((putl xs1 13 (xs1 13 ++ [.slice (some ⟨gg, 0, none⟩) (l.length + 30) gc])) 14).length pj) := Lib.cell?_alloc_some _ dj
               have ht1 : Touch [] w2 w1 := ((Touch.drew _ w2).trans (Touch.alloc _ _ _)).then (Touch.grown hg1' (F := [w2.heap.size]) (fun k hk => by simp at hk; simp [hk])) (fun k hk => by simp at hk; exact .inr (by omega))
               have hrow1 : w1.ownsRow base 27 1 (.slice aj ((putl xs1 13 (xs1 13 ++ [.slice (some ⟨gg, 0, none⟩) (l.length + 30) gc])) 14).length pj) ((putl xs1 13 (xs1 13 ++ [.slice (some ⟨gg, 0, none⟩) (l.length + 30) gc])) 14).length ((putl xs1 13 (xs1 13 ++ [.slice (some ⟨gg, 0, none⟩) (l.length + 30) gc])) 14) := row_keep2 Hrow.out ht1 (fun k _ h => by cases h)
               simp only [List.nil_append, Nat.zero_add] at ho1
               obtain ⟨ug, uc, rfl⟩ := ownsRow_some ho1 Hln.out.2
               have HU : Hid (w1.ownsRow w2.heap.size 3 1 (.slice (some ⟨ug, 0, none⟩) (l.length + 30) uc) (l.length + 30) (ints (l ++ lay m 30))) := ho1
               have HT1 : Hid (Touch [] w2 w1) := ht1
               have Hrow1 : Hid (w1.ownsRow base 27 1 (.slice aj ((putl xs1 13 (xs1 13 ++ [.slice (some ⟨gg, 0, none⟩) (l.length + 30) gc])) 14).length pj) ((putl xs1 13 (xs1 13 ++ [.slice (some ⟨gg, 0, none⟩) (l.length + 30) gc])) 14).length ((putl xs1 13 (xs1 13 ++ [.slice (some ⟨gg, 0, none⟩) (l.length + 30) gc])) 14)) := hrow1
               clear ho1 hg1 hg1' hat1 hbk1 ht1 hrow1)
            | (refine step_append_own_at rfl (.tmp 55) (.tmp 59) 40 rfl base 27 i1 (.slice none 0 0) 1 24 Tryz.underlying40 HI.out.b0 HI.out.b1 HI.out.b2 HI.out.b3 rfl (by decide) (.slice aj ((putl xs1 13 (xs1 13 ++ [.slice (some ⟨gg, 0, none⟩) (l.length + 30) gc])) 14).length pj) ((putl xs1 13 (xs1 13 ++ [.slice (some ⟨gg, 0, none⟩) (l.length + 30) gc])) 14).length ((putl xs1 13 (xs1 13 ++ [.slice (some ⟨gg, 0, none⟩) (l.length + 30) gc])) 14) rfl (Hrow1.out.alloc _) ⟨w1.heap.size, 0, none⟩ 1 1 [.slice (some ⟨ug, 0, none⟩) (l.length + 30) uc] rfl rfl (cell_one_new _ _ _) (by simp [Value.oneCell']) (by simp [maxLen]; omega) (by omega) (by have := Hb.out.2; have := HT1.out.size; simp; omega) ?_
               intro v' wz ho2 hg2 hat2
               obtain ⟨m1, m2, m3⟩ := copy_ex HV3.out 14 (by decide) (by decide) Ej.out HT1.out HU.out ho2 hg2 hat2
               have HM1 : Hid (Iv (wz.setCell ⟨b, 14, none⟩ v') base b (put (put f1 13 v13) 14 v') (putl (putl xs1 13 (xs1 13 ++ [.slice (some ⟨gg, 0, none⟩) (l.length + 30) gc])) 14 ((putl xs1 13 (xs1 13 ++ [.slice (some ⟨gg, 0, none⟩) (l.length + 30) gc])) 14 ++ [.slice (some ⟨ug, 0, none⟩) (l.length + 30) uc])) (ug :: (gg :: K1)) ∧ Ex w2 (wz.setCell ⟨b, 14, none⟩ v') b (put f1 13 v13) (put (put f1 13 v13) 14 v') (gg :: K1) (ug :: (gg :: K1)) ∧ Rd (wz.setCell ⟨b, 14, none⟩ v') (ug :: (gg :: K1)) (.slice (some ⟨ug, 0, none⟩) (l.length + 30) uc) (ints (l ++ lay m 30))) := ⟨m1, m2, m3⟩
               have hbk2 := grow_bk hg2 (show Bk w1 b (put f1 13 v13) from HV3.out.bk.touch HT1.out (by simp)) (by rw [← Ej.out]; exact HV3.out.rb 14 (by decide) (by decide))
               have ej2 := hbk2.cell 14
               rw [Ej.out] at ej2
               have fj2 := hbk2.frozen 14
               obtain ⟨vg, vc, rfl⟩ := row_sl ho2
               clear ho2 hg2 hat2 m1 m2 m3 hbk2))
          all_goals
            go_wp2
            go_roundw
            case rel =>
              obtain ⟨m1, m2, m3⟩ := HM1.out
              have hE := HE3.out.trans m2
              have hP0 := hE.prs HV2.out (HP2.out.more gg)
              refine ⟨k + 1, by omega, by go_num, _, _, _, m1, ?_, HE1.out.trans (HE2.out.trans (hE.ez _)), ?_, ?_, ?_, ?_⟩
              · rw [putl_ne _ _ (show (13 : Nat) ≠ 14 by decide), putl_same xs1 13, putl_same _ 14]
                try rw [putl_ne _ _ (show (14 : Nat) ≠ 13 by decide)]
                exact hP0.snoc _ _ (l ++ lay m 30) (m2.rd HV3.out HRd3.out) m3 (by simp; omega)
              · rw [putl_ne _ _ (show (13 : Nat) ≠ 14 by decide), putl_same xs1 13]
                have := HS1.out.1
                simp; omega
              · intro j j1 j2
                rw [put_ne _ _ j2, put_ne _ _ j1, putl_ne _ _ j2, putl_ne _ _ j1]
                exact HS1.out.2 j j1 j2
              · intro v hv
                rw [putl_ne _ _ (show (13 : Nat) ≠ 14 by decide), putl_same xs1 13, putl_same _ 14] at hv
                try rw [putl_ne _ _ (show (14 : Nat) ≠ 13 by decide)] at hv
                have z1 := HSz.out
                have z2 := Hgg.out
                have z5 := HSz2.out
                have z3 : wr.heap.size ≤ w2.heap.size := by obtain ⟨G, q1, _⟩ := HE3.out.t; exact q1.size
                have z4 := (HU.out.lt ug rfl).1
                simp only [List.mem_append, List.mem_cons, List.not_mem_nil, or_false] at hv
                rcases hv with (hv | hv) | (hv | hv)
                · exact (HN1.out v (by simp [hv])).imp id (Or.imp id (fun ⟨x, q1, q2⟩ => ⟨x, List.mem_take_more q1, q2⟩))
                · rcases Hat.out with e | e
                  · exact .inr (.inr ⟨_, List.mem_take_self HK.out, by rw [hv]; exact e⟩)
                  · exact .inr (.inl ⟨gg, by rw [hv]; rfl, by omega⟩)
                · exact (HN1.out v (by simp [hv])).imp id (Or.imp id (fun ⟨x, q1, q2⟩ => ⟨x, List.mem_take_more q1, q2⟩))
                · exact .inr (.inl ⟨ug, by rw [hv]; rfl, by omega⟩)
              · exact hE.frs HV2.out ((HFr.out.next.keep HT2.out (fun q hq => hq) HFar.out).more gg)
            case measure => simp [intOf]; omega
    · obtain rfl : k = (xs 17).length := by omega
      have f17 := HV1.out.bk.frozen 17
      have hV2 := HV1.out.drop 17 (by decide) (by decide)
      have hE2 := HV1.out.dropEx 17
      have f20 := hV2.bk.frozen 20
      have hV3 := hV2.drop 20 (by decide) (by decide)
      have hE3 := hV2.dropEx 20
      have HV3 : Hid (Iv ((wr.setCell ⟨b, 17, none⟩ (.slice none 0 0)).setCell ⟨b, 20, none⟩ (.slice none 0 0)) base b _ _ K1) := hV3
      have HE3 : Hid (Ez w ((wr.setCell ⟨b, 17, none⟩ (.slice none 0 0)).setCell ⟨b, 20, none⟩ (.slice none 0 0)) b f _ K K1 (xs 17)) := HE1.out.trans ((hE2.trans hE3).ez _)
      have HP3 : Hid (Prs ((wr.setCell ⟨b, 17, none⟩ (.slice none 0 0)).setCell ⟨b, 20, none⟩ (.slice none 0 0)) K1 (xs1 13) (xs1 14)) := (hE2.trans hE3).prs HV1.out HP1.out
      have d20 := hV2.bk.cell 20
      rw [put_ne _ _ (by decide), (HS1.out.2 20 (by decide) (by decide)).1, E20.out] at d20
      clear hV2 hE2 hV3 hE3 hlt
      go_wp2
      go_end0
      refine ⟨rfl, _, _, _, HV3.out, ?_, HE3.out, ?_, ?_, ?_, ?_, ?_⟩
      · exact HP3.out
      · exact HS1.out.1
      · simp [putl]
      · simp [putl]
      · intro j j1 j2 j3 j4
        rw [put_ne _ _ j4, put_ne _ _ j3, putl_ne _ _ j4, putl_ne _ _ j3]
        exact HS1.out.2 j j1 j2
      · exact fun v hv => (HN1.out v hv).imp id (Or.imp id (fun ⟨x, q1, q2⟩ => ⟨x, List.mem_of_mem_take q1, q2⟩))

end Go.Proofs.YtbgnagjhkfkekaaGreatDoor.Kg
