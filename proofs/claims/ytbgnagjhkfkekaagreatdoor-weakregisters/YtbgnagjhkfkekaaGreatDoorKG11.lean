/-
  markInts, walked.
-/
import Derived.Test.YtbgnagjhkfkekaaGreatDoorPKb
set_option linter.unusedVariables false
set_option maxRecDepth 20000
namespace Go.Proofs.YtbgnagjhkfkekaaGreatDoor.Kg
open Go.RowKit

theorem Mk.ex {w w' : World} {base b : Nat} {f0 f : Nat → Value} {xs : Nat → List Value} {K : List Nat} {ms1 ds1 fm : List Int} {A N : List Value} {ms ds : List Int} {vA vN vM vD : Value} {n13 k : Nat}
    (h : Mk w base b f0 f xs K ms1 ds1 fm A N ms ds vA vN vM vD n13 k) (hI : Iv w' base b f xs K) (hE : Ex w w' b f f K K) : Mk w' base b f0 f xs K ms1 ds1 fm A N ms ds vA vN vM vD n13 k :=
  ⟨hI, hE.prs h.iv h.pr, hE.wts h.iv h.wt, h.e18, h.e19, h.l19, hE.frs h.iv h.fr, h.e20, hE.wts h.iv h.rs, hE.rd h.iv h.rA, hE.rd h.iv h.rN, hE.rd h.iv h.rM, hE.rd h.iv h.rD, h.dst, h.fs, h.fx, h.ln⟩

theorem Mk.nil {w w' : World} {base b : Nat} {f0 f : Nat → Value} {xs : Nat → List Value} {K : List Nat} {ms1 ds1 fm : List Int} {A N : List Value} {ms ds : List Int} {vA vN vM vD : Value} {n13 k : Nat}
    (h : Mk w base b f0 f xs K ms1 ds1 fm A N ms ds vA vN vM vD n13 k) (hb : Below w.heap.size w w') : Mk w' base b f0 f xs K ms1 ds1 fm A N ms ds vA vN vM vD n13 k := h.ex (h.iv.nil hb) (Ex.below hb)

theorem Mk.lens {w : World} {base b : Nat} {f0 f : Nat → Value} {xs : Nat → List Value} {K : List Nat} {ms1 ds1 fm : List Int} {A N : List Value} {ms ds : List Int} {vA vN vM vD : Value} {n13 k : Nat}
    (h : Mk w base b f0 f xs K ms1 ds1 fm A N ms ds vA vN vM vD n13 k) : (xs 15).length ≤ k ∧ (xs 16).length ≤ k ∧ (xs 17).length ≤ k ∧ (xs 18).length ≤ k ∧ (xs 19).length ≤ k ∧ (xs 20).length ≤ k ∧ (xs 13).length ≤ n13 + k ∧ (xs 14).length ≤ n13 + k := by
  have h1 := h.ln
  have h2 := h.wt.l1
  have h3 := h.wt.l2
  have h4 := h.l19
  have h5 := h.fr.len
  have h6 := h.pr.len
  have e18 : (xs 18).length = ms1.length := by rw [h.e18]; simp [ints]
  have e19 : (xs 19).length = ds1.length := by rw [h.e19]; simp [ints]
  have e20 : (xs 20).length = fm.length := by rw [h.e20]; simp [ints]
  omega

theorem Rd.at_ {w : World} {K : List Nat} {gA n pA : Nat} {l : List Value} (h : Rd w K (.slice (some ⟨gA, 0, none⟩) n pA) l) (k : Nat) (x : Value) (hx : l[k]? = some x) : w.cell? ⟨gA, k, none⟩ = some x := by
  obtain ⟨a, c, e, _, hc⟩ := h
  obtain ⟨g, e2, c2⟩ := hc k x hx
  simp only [Value.slice.injEq] at e
  rw [e2] at e
  simp only [Option.some.injEq, Addr.mk.injEq, and_true] at e
  rw [e.1]
  exact c2

theorem row_frozen {w : World} {base e n N g cap j : Nat} {xs : List Value} (h : w.ownsRow base e 1 (.slice (some ⟨g, 0, none⟩) n cap) N xs) : w.frozen? ⟨g, j, none⟩ = false := by
  rcases h.2 with ⟨h, _⟩ | ⟨g2, cap2, cur, e2, hbg, hg, _⟩
  · cases h
  · simp only [Value.slice.injEq, Option.some.injEq, Addr.mk.injEq, and_true] at e2
    rw [e2.1]
    exact heap_frozen hg j

set_option maxHeartbeats 32000000 in
theorem markInts_any {w : World} {base b : Nat} {f : Nat → Value} {xs : Nat → List Value} {K : List Nat} {ms ds : List Int} {turn : Int} (h : Iv w base b f xs K) (h1 : Prs w K (xs 13) (xs 14)) (hW : Wts w base K (xs 15) (xs 16) ms) (e18 : xs 18 = ints ms) (e19 : xs 19 = ints ds) (l19 : ds.length = (xs 15).length) (e17 : xs 17 = []) (e20 : xs 20 = [])
    (hD : Dst (xs 15) (xs 13 ++ xs 14 ++ xs 16)) (f0 : f 0 = .bool false) (f1 : f 1 = .bool false) (f2 : f 2 = .int .i64 turn) (hne : xs 15 ≠ []) (n1 : (xs 13).length + (xs 15).length < 4000000000) :
    Calls Tryz.prog 103 #[.pointer (some ⟨b, 0, none⟩)] w fun e w' => e = .returned (.tuple #[]) ∧ ∃ f' xs' K' ms' ds' fm, Iv w' base b f' xs' K' ∧ Prs w' K' (xs' 13) (xs' 14) ∧ Wts w' base K' (xs' 15) (xs' 16) ms' ∧ xs' 18 = ints ms' ∧ xs' 19 = ints ds' ∧ ds'.length = (xs' 15).length ∧ Frs w' base K' 0 (xs' 17) fm ∧ xs' 20 = ints fm ∧ Dst (xs' 15) (xs' 13 ++ xs' 14 ++ xs' 16 ++ xs' 17) ∧ Fsh (xs' 17) (xs' 13 ++ xs' 14) (xs' 16) ∧ (∀ j, j < 13 ∨ 20 < j → f' j = f j) ∧ Ey w w' b f f' K K' ∧ (xs' 15).length + (xs' 17).length = (xs 15).length ∧ (xs' 13).length = (xs 13).length + (xs' 17).length := by
  obtain ⟨i0, i1, hI⟩ := inf_ex
  have HI : Hid (Inf i0 i1) := hI
  obtain ⟨f4, xs4, K4, hMk, hEy⟩ := mk_start h h1 hW e18 e19 l19 e17 e20 hD hne
  have hn0 : 0 < (xs 15).length := List.length_pos_iff.2 hne
  have hl16 : (xs 16).length = (xs 15).length := hW.l1.symm
  have hl18 : (xs 18).length = (xs 15).length := by rw [e18, hW.l2]; simp [ints]
  have hl19 : (xs 19).length = (xs 15).length := by rw [e19, ← l19]; simp [ints]
  obtain ⟨gA, pA, eA⟩ := ownsRow_some (h.own 15 (by decide) (by decide)) hn0
  obtain ⟨gN, pN, eN⟩ := ownsRow_some (h.own 16 (by decide) (by decide)) (by omega)
  obtain ⟨gM, pM, eM⟩ := ownsRow_some (h.own 18 (by decide) (by decide)) (by omega)
  obtain ⟨gD, pD, eD⟩ := ownsRow_some (h.own 19 (by decide) (by decide)) (by omega)
  rw [hl16] at eN
  rw [hl18] at eM
  rw [hl19] at eD
  have c15 := h.bk.cell 15
  have c16 := h.bk.cell 16
  have c18 := h.bk.cell 18
  have c19 := h.bk.cell 19
  have z15 := h.bk.frozen 15
  have bk1 := h.bk.set 15 (.slice none 0 0)
  have d16 := bk1.cell 16
  have z16 := bk1.frozen 16
  have bk2 := bk1.set 16 (.slice none 0 0)
  have d18 := bk2.cell 18
  have z18 := bk2.frozen 18
  have bk3 := bk2.set 18 (.slice none 0 0)
  have d19 := bk3.cell 19
  have z19 := bk3.frozen 19
  rw [put_ne _ _ (by decide), eN] at d16
  rw [put_ne _ _ (by decide), put_ne _ _ (by decide), eM] at d18
  rw [put_ne _ _ (by decide), put_ne _ _ (by decide), put_ne _ _ (by decide), eD] at d19
  rw [eA] at c15
  rw [eN] at c16
  rw [eM] at c18
  rw [eD] at c19
  rw [eA, eN, eM, eD] at hMk
  have hlN : (xs 16).length = (xs 15).length := hl16
  have hlM : ms.length = (xs 15).length := hW.l2.symm
  have F0 : Hid (f 0 = .bool false ∧ f 1 = .bool false ∧ f 2 = .int .i64 turn) := ⟨f0, f1, f2⟩
  have HLs : Hid ((xs 16).length = (xs 15).length ∧ ms.length = (xs 15).length ∧ ds.length = (xs 15).length) := ⟨hl16, hlM, l19⟩
  have n0i : (((xs 15).length : Int) == 0) = false := by simp; omega
  generalize hQ : (fun (e : Ending) (w' : World) => e = .returned (.tuple #[]) ∧ ∃ f' xs' K' ms' ds' fm, Iv w' base b f' xs' K' ∧ Prs w' K' (xs' 13) (xs' 14) ∧ Wts w' base K' (xs' 15) (xs' 16) ms' ∧ xs' 18 = ints ms' ∧ xs' 19 = ints ds' ∧ ds'.length = (xs' 15).length ∧ Frs w' base K' 0 (xs' 17) fm ∧ xs' 20 = ints fm ∧ Dst (xs' 15) (xs' 13 ++ xs' 14 ++ xs' 16 ++ xs' 17) ∧ Fsh (xs' 17) (xs' 13 ++ xs' 14) (xs' 16) ∧ (∀ j, j < 13 ∨ 20 < j → f' j = f j) ∧ Ey w w' b f f' K K' ∧ (xs' 15).length + (xs' 17).length = (xs 15).length ∧ (xs' 13).length = (xs 13).length + (xs' 17).length) = QQ
  have HQ : Hid (_ = QQ) := hQ
  clear hQ h h1 hW e18 e19 l19 e17 e20 hD f0 f1 f2 hl16 hl18 hl19 eA eN eM eD bk1 bk2 bk3 hI hne hlN hlM
  generalize xs 15 = A at *
  generalize xs 16 = N at *
  go_enter Tryz.func103, Tryz.ntmps103
  go_upto_region 6 with fail
  have HMk : Hid (Mk ((((w.setCell ⟨b, 15, none⟩ (.slice none 0 0)).setCell ⟨b, 16, none⟩ (.slice none 0 0)).setCell ⟨b, 18, none⟩ (.slice none 0 0)).setCell ⟨b, 19, none⟩ (.slice none 0 0)) base b f f4 xs4 K4 [] [] [] A N ms ds (.slice (some ⟨gA, 0, none⟩) A.length pA) (.slice (some ⟨gN, 0, none⟩) A.length pN) (.slice (some ⟨gM, 0, none⟩) A.length pM) (.slice (some ⟨gD, 0, none⟩) A.length pD) (xs 13).length 0) := hMk
  have HEy : Hid (Ey w ((((w.setCell ⟨b, 15, none⟩ (.slice none 0 0)).setCell ⟨b, 16, none⟩ (.slice none 0 0)).setCell ⟨b, 18, none⟩ (.slice none 0 0)).setCell ⟨b, 19, none⟩ (.slice none 0 0)) b f f4 K K4) := hEy
  clear hMk hEy c15 c16 c18 c19 z15 d16 z16 d18 z18 d19 z19
  generalize ((((w.setCell ⟨b, 15, none⟩ (.slice none 0 0)).setCell ⟨b, 16, none⟩ (.slice none 0 0)).setCell ⟨b, 18, none⟩ (.slice none 0 0)).setCell ⟨b, 19, none⟩ (.slice none 0 0)) = w4 at HMk HEy ⊢
  go_wp2
  go_loopw [6] (fun i wr => ∃ k : Nat, k ≤ A.length ∧ i = .int .i64 k ∧ ∃ f1 xs1 K1 ms1 ds1 fm1, Mk wr base b f f1 xs1 K1 ms1 ds1 fm1 A N ms ds (.slice (some ⟨gA, 0, none⟩) A.length pA) (.slice (some ⟨gN, 0, none⟩) A.length pN) (.slice (some ⟨gM, 0, none⟩) A.length pM) (.slice (some ⟨gD, 0, none⟩) A.length pD) (xs 13).length k ∧ Ey w wr b f f1 K K1) (fun i _ => A.length - (intOf i).toNat)
  case atStart => exact ⟨0, Nat.zero_le _, rfl, _, _, _, _, _, _, HMk.out, HEy.out⟩
  case round =>
    obtain ⟨k, hk, rfl, f1, xs1, K1, ms1, ds1, fm1, hM, hE⟩ := hrel
    clear HMk HEy
    have HEy : Hid (Ey w wr b f f1 K K1) := hE
    clear hE
    by_cases hlt : k < A.length
    · obtain ⟨v, hv⟩ : ∃ v, A[k]? = some v := ⟨_, List.getElem?_eq_getElem hlt⟩
      obtain ⟨u, l, m, hu, hm, m0, m1, hlon, hgK, hru, l16⟩ := hM.rs.at_ 0 v (by rw [List.getElem?_drop]; simpa using hv)
      rw [List.getElem?_drop, Nat.add_zero] at hu hm
      obtain ⟨d, hd⟩ : ∃ d, ds[k]? = some d := ⟨_, List.getElem?_eq_getElem (by have := HLs.out.2.2; omega)⟩
      obtain ⟨va, vc0, hve⟩ := row_sl hlon
      subst hve
      have cA := hM.rA.at_ k _ hv
      have cM := hM.rM.at_ k (.int .i64 m) (by simp [ints, hm])
      have cD := hM.rD.at_ k (.int .i64 d) (by simp [ints, hd])
      have c2 := hM.iv.bk.cell 2
      rw [hM.fx 2 (by omega), F0.out.2.2] at c2
      have hki : (k : Int) < A.length := by omega
      have HV : Hid (A[k]? = some (.slice va l.length vc0) ∧ N[k]? = some u ∧ ms[k]? = some m ∧ ds[k]? = some d) := ⟨hv, hu, hm, hd⟩
      have HM : Hid (Mk wr base b f f1 xs1 K1 ms1 ds1 fm1 A N ms ds (.slice (some ⟨gA, 0, none⟩) A.length pA) (.slice (some ⟨gN, 0, none⟩) A.length pN) (.slice (some ⟨gM, 0, none⟩) A.length pM) (.slice (some ⟨gD, 0, none⟩) A.length pD) (xs 13).length k) := hM
      have HG : Hid ((∀ g, (Value.slice va l.length vc0).ownBlock = some g → g ∈ K1) ∧ Row wr base (.slice va l.length vc0) l ∧ Rd wr K1 u (ints l)) := ⟨hgK, hlon, hru⟩
      clear hM hv hu hm hd hgK hlon hru
      go_upto_region 11 with fail
      go_quiet (fail)
      have HM0 : Hid (Mk (wr.drewN nq) base b f f1 xs1 K1 ms1 ds1 fm1 A N ms ds (.slice (some ⟨gA, 0, none⟩) A.length pA) (.slice (some ⟨gN, 0, none⟩) A.length pN) (.slice (some ⟨gM, 0, none⟩) A.length pM) (.slice (some ⟨gD, 0, none⟩) A.length pD) (xs 13).length k) := HM.out.nil ((Touch.drewN [] wr nq).below (Nat.le_refl _) (fun k hk => by cases hk))
      have HE0 : Hid (Ex wr (wr.drewN nq) b f1 f1 K1 K1) := Ex.below ((Touch.drewN [] wr nq).below (Nat.le_refl _) (fun k hk => by cases hk))
      have HG0 : Hid ((∀ g, (Value.slice va l.length vc0).ownBlock = some g → g ∈ K1) ∧ Row (wr.drewN nq) base (.slice va l.length vc0) l ∧ Rd (wr.drewN nq) K1 u (ints l)) := ⟨HG.out.1, HG.out.2.1, HE0.out.rd HM.out.iv HG.out.2.2⟩
      clear cA cM cD c2 HG
      generalize wr.drewN nq = w0 at HM0 HE0 HG0 ⊢
      have HV0 : Hid (Iv w0 base b f1 xs1 K1) := HM0.out.iv
      have Hln : Hid ((xs1 15).length ≤ k ∧ (xs1 16).length ≤ k ∧ (xs1 17).length ≤ k ∧ (xs1 18).length ≤ k ∧ (xs1 19).length ≤ k ∧ (xs1 20).length ≤ k ∧ (xs1 13).length ≤ (xs 13).length + k ∧ (xs1 14).length ≤ (xs 13).length + k) := HM0.out.lens
      by_cases hdt : turn < d
      · obtain ⟨gu, cu, eu, _, _⟩ := HG0.out.2.2
        rw [show (ints l).length = l.length by simp [ints]] at eu
        subst eu
        go_upto_region 12 with fail
        go_cut [] from 55 to 73 (fun wc => ∃ v', Iv wc base b (put (f1) 15 v') (putl (xs1) 15 ((xs1) 15 ++ [.slice va l.length vc0])) (K1) ∧ Ex w0 wc b (f1) (put (f1) 15 v') (K1) (K1))
        case first =>
          obtain ⟨aj, pj, ej⟩ := row_sl (HV0.out.own 15 (by decide) (by decide))
          have cj := HV0.out.bk.cell 15
          rw [ej] at cj
          have hrow := HV0.out.own 15 (by decide) (by decide)
          rw [ej] at hrow
          have Ej : Hid ((f1) 15 = .slice aj ((xs1) 15).length pj) := ej
          have Hrow : Hid (w0.ownsRow base 27 1 (.slice aj ((xs1) 15).length pj) ((xs1) 15).length ((xs1) 15)) := hrow
          have hnj : ((xs1) 15).length < 4000000000 := by have := Hln.out; omega
          clear ej hrow 
          go_wp2_with (at_builtin; refine wpList_append_own_at _ rfl _ _ 40 rfl base 27 i1 (.slice none 0 0) 1 24 Tryz.underlying40 HI.out.b0 HI.out.b1 HI.out.b2 HI.out.b3 rfl (by decide) _ _ _ rfl (Hrow.out.alloc _) ⟨w0.heap.size, 0, none⟩ 1 1 [.slice va l.length vc0] rfl rfl (cell_one_new _ _ _) (by simp [Value.oneCell']) (by simp [maxLen]; omega) (by omega) (by have := HV0.out.lo; have := HV0.out.bk.lt; simp; omega) ?_)
          intro v' w1 hown' hgrow _ hat
          have hbk1 := grow_bk hgrow HV0.out.bk (by rw [← Ej.out]; exact HV0.out.rb 15 (by decide) (by decide))
          have dj := hbk1.cell 15
          rw [Ej.out] at dj
          have fj := hbk1.frozen 15
          have hres := Iv.appEx HV0.out 15 (by decide) (by decide) (.slice va l.length vc0) v' hown' (by rw [Ej.out]; exact (Touch.alloc _ _ _).trans (Touch.grown hgrow (fun k hk => by simp [hk]))) (by rw [Ej.out]; rcases hat with h | h; exact .inl h; exact .inr ⟨_, h, by simp⟩)
          have HR : Hid (Iv (w1.setCell ⟨b, 15, none⟩ v') base b (put (f1) 15 v') (putl (xs1) 15 ((xs1) 15 ++ [.slice va l.length vc0])) (K1) ∧ Ex w0 (w1.setCell ⟨b, 15, none⟩ v') b (f1) (put (f1) 15 v') (K1) (K1)) := hres
          obtain ⟨gq, cq, rfl⟩ := row_sl hown'
          clear hown' hgrow hat hbk1 hres cj
          go_wp2_with fail
          go_meet
          exact ⟨_, HR.out⟩
        case rest =>
        obtain ⟨v15, hVa, hEa⟩ := hcut
        obtain ⟨wa, hwa⟩ : ∃ x, x = wc := ⟨_, rfl⟩
        subst hwa
        obtain ⟨fa, hfa⟩ : ∃ x, x = put f1 15 v15 := ⟨_, rfl⟩
        obtain ⟨xa, hxa⟩ : ∃ x, x = putl xs1 15 (xs1 15 ++ [.slice va l.length vc0]) := ⟨_, rfl⟩
        rw [← hfa] at hVa hEa
        rw [← hxa] at hVa
        have HVa : Hid (Iv wa base b fa xa K1) := hVa
        have HEa : Hid (Ex w0 wa b f1 fa K1 K1) := hEa
        have Hfa : Hid (fa = put f1 15 v15) := hfa
        have Hxa : Hid (xa = putl xs1 15 (xs1 15 ++ [.slice va l.length vc0])) := hxa
        clear hVa hEa hfa hxa
        go_upto_region 13 with fail
        go_cut [] from 74 to 86 (fun wc => ∃ v', Iv wc base b (put (fa) 16 v') (putl (xa) 16 ((xa) 16 ++ [.slice gu l.length cu])) (K1) ∧ Ex wa wc b (fa) (put (fa) 16 v') (K1) (K1))
        case first =>
          have cN := (HEa.out.rd HM0.out.iv HM0.out.rN).at_ k _ HV.out.2.1
          obtain ⟨aj, pj, ej⟩ := row_sl (HVa.out.own 16 (by decide) (by decide))
          have cj := HVa.out.bk.cell 16
          rw [ej] at cj
          have cja : (wa.alloc (.cells #[.slice gu l.length cu] 27)).cell? ⟨b, 16, none⟩ = some (.slice aj ((xa) 16).length pj) := Lib.cell?_alloc_some _ cj
          have hrow := HVa.out.own 16 (by decide) (by decide)
          rw [ej] at hrow
          have Ej : Hid ((fa) 16 = .slice aj ((xa) 16).length pj) := ej
          have Hrow : Hid (wa.ownsRow base 27 1 (.slice aj ((xa) 16).length pj) ((xa) 16).length ((xa) 16)) := hrow
          have hnj : ((xa) 16).length < 4000000000 := by rw [Hxa.out, putl_ne _ _ (by decide)]; have := Hln.out; omega
          have Hb : Hid (b < wa.heap.size ∧ base ≤ wa.heap.size) := ⟨HVa.out.bk.lt, by have := HVa.out.lo; have := HVa.out.bk.lt; omega⟩
          clear ej hrow 
          go_region_law (refine step_append_own_at rfl (.tmp 78) (.tmp 83) 40 rfl base 27 i1 (.slice none 0 0) 1 24 Tryz.underlying40 HI.out.b0 HI.out.b1 HI.out.b2 HI.out.b3 rfl (by decide) (.slice aj ((xa) 16).length pj) ((xa) 16).length ((xa) 16) rfl ((show wa.drew.ownsRow base 27 1 _ _ _ from Hrow.out).alloc _) ⟨wa.heap.size, 0, none⟩ 1 1 [.slice gu l.length cu] rfl rfl (cell_one_new _ _ _) (by simp [Value.oneCell']) (by simp [maxLen]; omega) (by omega) (by have := Hb.out.2; simp; omega) ?_; intro v' w1 ho1 hg1 hat1; have hg1' : (wa.drew.alloc (.cells #[.slice gu l.length cu] 27)).grownBy w1 (Value.slice aj ((xa) 16).length pj).ownBlock := hg1; have hbk1 := grow_bk hg1' (show Bk wa.drew b (fa) from HVa.out.bk) (by rw [← Ej.out]; exact HVa.out.rb 16 (by decide) (by decide)); have dj := hbk1.cell 16; rw [Ej.out] at dj; have fj := hbk1.frozen 16; have hres := Iv.appEx HVa.out 16 (by decide) (by decide) (.slice gu l.length cu) v' ho1 (by rw [Ej.out]; exact ((Touch.drew _ _).trans (Touch.alloc _ _ _)).trans (Touch.grown hg1' (fun k hk => by simp [hk]))) (by rw [Ej.out]; rcases hat1 with h | h; exact .inl h; exact .inr ⟨_, h, by simp⟩); have HR : Hid (Iv (w1.setCell ⟨b, 16, none⟩ v') base b (put (fa) 16 v') (putl (xa) 16 ((xa) 16 ++ [.slice gu l.length cu])) (K1) ∧ Ex wa (w1.setCell ⟨b, 16, none⟩ v') b (fa) (put (fa) 16 v') (K1) (K1)) := hres; obtain ⟨gq, cq, rfl⟩ := row_sl ho1; clear ho1 hg1 hg1' hat1 hbk1 hres)
          all_goals
            go_wp2_with fail
            go_meet
            exact ⟨_, HR.out⟩
        case rest =>
        obtain ⟨v16, hVb, hEb⟩ := hcut
        obtain ⟨wb, hwb⟩ : ∃ x, x = wc := ⟨_, rfl⟩
        subst hwb
        obtain ⟨fb, hfb⟩ : ∃ x, x = put fa 16 v16 := ⟨_, rfl⟩
        obtain ⟨xb, hxb⟩ : ∃ x, x = putl xa 16 (xa 16 ++ [.slice gu l.length cu]) := ⟨_, rfl⟩
        rw [← hfb] at hVb hEb
        rw [← hxb] at hVb
        have HVb : Hid (Iv wb base b fb xb K1) := hVb
        have HEb : Hid (Ex wa wb b fa fb K1 K1) := hEb
        have Hfb : Hid (fb = put fa 16 v16) := hfb
        have Hxb : Hid (xb = putl xa 16 (xa 16 ++ [.slice gu l.length cu])) := hxb
        clear hVb hEb hfb hxb
        go_upto_region 14 with fail
        go_cut [] from 87 to 96 (fun wc => ∃ v', Iv wc base b (put (fb) 18 v') (putl (xb) 18 ((xb) 18 ++ [.int .i64 m])) (K1) ∧ Ex wb wc b (fb) (put (fb) 18 v') (K1) (K1))
        case first =>
          obtain ⟨aj, pj, ej⟩ := row_sl (HVb.out.own 18 (by decide) (by decide))
          have cj := HVb.out.bk.cell 18
          rw [ej] at cj
          have hrow := HVb.out.own 18 (by decide) (by decide)
          rw [ej] at hrow
          have Ej : Hid ((fb) 18 = .slice aj ((xb) 18).length pj) := ej
          have Hrow : Hid (wb.ownsRow base 3 1 (.slice aj ((xb) 18).length pj) ((xb) 18).length ((xb) 18)) := hrow
          have hnj : ((xb) 18).length < 4000000000 := by rw [Hxb.out, putl_ne _ _ (by decide), Hxa.out, putl_ne _ _ (by decide)]; have := Hln.out; omega
          clear ej hrow 
          go_wp2_with (at_builtin; refine wpList_append_own_at _ rfl _ _ 27 rfl base 3 i0 (.int .i64 0) 1 8 Tryz.underlying27 HI.out.a0 HI.out.a1 HI.out.a2 HI.out.a3 rfl (by decide) _ _ _ rfl (Hrow.out.alloc _) ⟨wb.heap.size, 0, none⟩ 1 1 [.int .i64 m] rfl rfl (cell_one_new _ _ _) (by simp [Value.oneCell']) (by simp [maxLen]; omega) (by omega) (by have := HVb.out.lo; have := HVb.out.bk.lt; simp; omega) ?_)
          intro v' w1 hown' hgrow _ hat
          have hbk1 := grow_bk hgrow HVb.out.bk (by rw [← Ej.out]; exact HVb.out.rb 18 (by decide) (by decide))
          have dj := hbk1.cell 18
          rw [Ej.out] at dj
          have fj := hbk1.frozen 18
          have hres := Iv.appEx HVb.out 18 (by decide) (by decide) (.int .i64 m) v' hown' (by rw [Ej.out]; exact (Touch.alloc _ _ _).trans (Touch.grown hgrow (fun k hk => by simp [hk]))) (by rw [Ej.out]; rcases hat with h | h; exact .inl h; exact .inr ⟨_, h, by simp⟩)
          have HR : Hid (Iv (w1.setCell ⟨b, 18, none⟩ v') base b (put (fb) 18 v') (putl (xb) 18 ((xb) 18 ++ [.int .i64 m])) (K1) ∧ Ex wb (w1.setCell ⟨b, 18, none⟩ v') b (fb) (put (fb) 18 v') (K1) (K1)) := hres
          obtain ⟨gq, cq, rfl⟩ := row_sl hown'
          clear hown' hgrow hat hbk1 hres cj
          go_wp2_with fail
          go_meet
          exact ⟨_, HR.out⟩
        case rest =>
        obtain ⟨v18, hVc, hEc⟩ := hcut
        obtain ⟨wcc, hwc⟩ : ∃ x, x = wc := ⟨_, rfl⟩
        subst hwc
        obtain ⟨fc, hfc⟩ : ∃ x, x = put fb 18 v18 := ⟨_, rfl⟩
        obtain ⟨xc, hxc⟩ : ∃ x, x = putl xb 18 (xb 18 ++ [.int .i64 m]) := ⟨_, rfl⟩
        rw [← hfc] at hVc hEc
        rw [← hxc] at hVc
        have HVc : Hid (Iv wcc base b fc xc K1) := hVc
        have HEc : Hid (Ex wb wcc b fb fc K1 K1) := hEc
        have Hfc : Hid (fc = put fb 18 v18) := hfc
        have Hxc : Hid (xc = putl xb 18 (xb 18 ++ [.int .i64 m])) := hxc
        clear hVc hEc hfc hxc
        go_upto_region 15 with fail
        go_cut [] from 97 to 109 (fun wc => ∃ v', Iv wc base b (put (fc) 19 v') (putl (xc) 19 ((xc) 19 ++ [.int .i64 d])) (K1) ∧ Ex wcc wc b (fc) (put (fc) 19 v') (K1) (K1))
        case first =>
          have cD := ((HEa.out.trans (HEb.out.trans HEc.out)).rd HM0.out.iv HM0.out.rD).at_ k (.int .i64 d) (by simp [ints, HV.out.2.2.2])
          obtain ⟨aj, pj, ej⟩ := row_sl (HVc.out.own 19 (by decide) (by decide))
          have cj := HVc.out.bk.cell 19
          rw [ej] at cj
          have cja : (wcc.alloc (.cells #[.int .i64 d] 3)).cell? ⟨b, 19, none⟩ = some (.slice aj ((xc) 19).length pj) := Lib.cell?_alloc_some _ cj
          have hrow := HVc.out.own 19 (by decide) (by decide)
          rw [ej] at hrow
          have Ej : Hid ((fc) 19 = .slice aj ((xc) 19).length pj) := ej
          have Hrow : Hid (wcc.ownsRow base 3 1 (.slice aj ((xc) 19).length pj) ((xc) 19).length ((xc) 19)) := hrow
          have hnj : ((xc) 19).length < 4000000000 := by rw [Hxc.out, putl_ne _ _ (by decide), Hxb.out, putl_ne _ _ (by decide), Hxa.out, putl_ne _ _ (by decide)]; have := Hln.out; omega
          have Hb : Hid (b < wcc.heap.size ∧ base ≤ wcc.heap.size) := ⟨HVc.out.bk.lt, by have := HVc.out.lo; have := HVc.out.bk.lt; omega⟩
          clear ej hrow 
          go_region_law (refine step_append_own_at rfl (.tmp 101) (.tmp 106) 27 rfl base 3 i0 (.int .i64 0) 1 8 Tryz.underlying27 HI.out.a0 HI.out.a1 HI.out.a2 HI.out.a3 rfl (by decide) (.slice aj ((xc) 19).length pj) ((xc) 19).length ((xc) 19) rfl ((show wcc.drew.ownsRow base 3 1 _ _ _ from Hrow.out).alloc _) ⟨wcc.heap.size, 0, none⟩ 1 1 [.int .i64 d] rfl rfl (cell_one_new _ _ _) (by simp [Value.oneCell']) (by simp [maxLen]; omega) (by omega) (by have := Hb.out.2; simp; omega) ?_; intro v' w1 ho1 hg1 hat1; have hg1' : (wcc.drew.alloc (.cells #[.int .i64 d] 3)).grownBy w1 (Value.slice aj ((xc) 19).length pj).ownBlock := hg1; have hbk1 := grow_bk hg1' (show Bk wcc.drew b (fc) from HVc.out.bk) (by rw [← Ej.out]; exact HVc.out.rb 19 (by decide) (by decide)); have dj := hbk1.cell 19; rw [Ej.out] at dj; have fj := hbk1.frozen 19; have hres := Iv.appEx HVc.out 19 (by decide) (by decide) (.int .i64 d) v' ho1 (by rw [Ej.out]; exact ((Touch.drew _ _).trans (Touch.alloc _ _ _)).trans (Touch.grown hg1' (fun k hk => by simp [hk]))) (by rw [Ej.out]; rcases hat1 with h | h; exact .inl h; exact .inr ⟨_, h, by simp⟩); have HR : Hid (Iv (w1.setCell ⟨b, 19, none⟩ v') base b (put (fc) 19 v') (putl (xc) 19 ((xc) 19 ++ [.int .i64 d])) (K1) ∧ Ex wcc (w1.setCell ⟨b, 19, none⟩ v') b (fc) (put (fc) 19 v') (K1) (K1)) := hres; obtain ⟨gq, cq, rfl⟩ := row_sl ho1; clear ho1 hg1 hg1' hat1 hbk1 hres)
          all_goals
            go_wp2_with fail
            go_meet
            exact ⟨_, HR.out⟩
        case rest =>
        obtain ⟨v19, hVd, hEd⟩ := hcut
        obtain ⟨wd, hwd⟩ : ∃ x, x = wc := ⟨_, rfl⟩
        subst hwd
        obtain ⟨fd, hfd⟩ : ∃ x, x = put fc 19 v19 := ⟨_, rfl⟩
        obtain ⟨xd, hxd⟩ : ∃ x, x = putl xc 19 (xc 19 ++ [.int .i64 d]) := ⟨_, rfl⟩
        rw [← hfd] at hVd hEd
        rw [← hxd] at hVd
        have HVd : Hid (Iv wd base b fd xd K1) := hVd
        have HEd : Hid (Ex wcc wd b fc fd K1 K1) := hEd
        have Hfd : Hid (fd = put fc 19 v19) := hfd
        have Hxd : Hid (xd = putl xc 19 (xc 19 ++ [.int .i64 d])) := hxd
        clear hVd hEd hfd hxd
        have hEE := HEa.out.trans (HEb.out.trans (HEc.out.trans HEd.out))
        have hMn := HM0.out.kept (d := d) HV.out.1 HV.out.2.1 HV.out.2.2.1 Hxa.out Hxb.out Hxc.out Hxd.out HVd.out hEE (fun j hj => by rw [Hfd.out, put_ne _ _ (by omega), Hfc.out, put_ne _ _ (by omega), Hfb.out, put_ne _ _ (by omega), Hfa.out, put_ne _ _ (by omega)])
        have HMn : Hid (Mk wd base b f fd xd K1 (ms1 ++ [m]) (ds1 ++ [d]) fm1 A N ms ds (.slice (some ⟨gA, 0, none⟩) A.length pA) (.slice (some ⟨gN, 0, none⟩) A.length pN) (.slice (some ⟨gM, 0, none⟩) A.length pM) (.slice (some ⟨gD, 0, none⟩) A.length pD) (xs 13).length (k + 1)) := hMn
        have HEn : Hid (Ey w wd b f fd K K1) := HEy.out.trans (HE0.out.trans hEE).ey
        clear hEE hMn HVa HVb HVc HVd HEa HEb HEc HEd Hfa Hfb Hfc Hfd Hxa Hxb Hxc Hxd HV0 HG0 HV HM HM0 HE0
        go_wp2
        go_roundw
        case rel => exact ⟨k + 1, by omega, by go_num, _, _, _, _, _, _, HMn.out, HEn.out⟩
        case measure => simp [intOf]; omega
      · obtain ⟨gu, cu, eu, _, _⟩ := HG0.out.2.2
        rw [show (ints l).length = l.length by simp [ints]] at eu
        subst eu
        have hsm := ksame_any K1 (.slice va l.length vc0) (.slice gu l.length cu) l w0 (by omega) (Rd.row HG0.out.2.1 HG0.out.1) HG0.out.2.2
        have c0 := HM0.out.iv.bk.cell 0
        rw [HM0.out.fx 0 (by omega), F0.out.1] at c0
        have c1 := HM0.out.iv.bk.cell 1
        rw [HM0.out.fx 1 (by omega), F0.out.2.1] at c1
        have z1 := HM0.out.iv.bk.frozen 1
        have cN := HM0.out.rN.at_ k _ HV.out.2.1
        go_wp2_with fail
        refine hsm.mono ?_
        rintro e w9 ⟨rfl, rfl⟩
        clear hsm
        have hp1 : put f1 1 (.bool false) = f1 := put_self f1 1 _ (by rw [HM0.out.fx 1 (by omega), F0.out.2.1])
        have hVs := HV0.out.field 1 (.bool false) (by omega) (by omega)
        have hEs := HV0.out.fieldEx 1 (.bool false) (by omega)
        rw [hp1] at hVs hEs
        have HMs : Hid (Mk (w0.setCell ⟨b, 1, none⟩ (.bool false)) base b f f1 xs1 K1 ms1 ds1 fm1 A N ms ds (.slice (some ⟨gA, 0, none⟩) A.length pA) (.slice (some ⟨gN, 0, none⟩) A.length pN) (.slice (some ⟨gM, 0, none⟩) A.length pM) (.slice (some ⟨gD, 0, none⟩) A.length pD) (xs 13).length k) := HM0.out.ex hVs hEs
        have HEs : Hid (Ex wr (w0.setCell ⟨b, 1, none⟩ (.bool false)) b f1 f1 K1 K1) := HE0.out.trans hEs
        have HLs1 : Hid (Row (w0.setCell ⟨b, 1, none⟩ (.bool false)) base (.slice va l.length vc0) l) := row_keep2 HG0.out.2.1 (Touch.setCell (F := [b]) _ _ _ (by simp)) (fun k hk hm => by simp at hm; subst hm; exact HV0.out.kb (HG0.out.1 _ hk))
        clear hp1 hVs hEs
        go_upto_region 18 with fail
        clear c0 c1 z1 cN
        generalize (w0.setCell ⟨b, 1, none⟩ (.bool false)) = w1s at HMs HEs HLs1 ⊢
        go_loopw [9] (fun i wr2 => ∃ q : Nat, q ≤ l.length ∧ i = .int .i64 q ∧ Touch (Value.slice va l.length vc0).ownBlock.toList w1s wr2 ∧ wr2.ownsRow base 3 1 (.slice va l.length vc0) l.length (ints (full m q ++ l.drop q))) (fun i _ => l.length - (intOf i).toNat)
        case atStart => exact ⟨0, Nat.zero_le _, rfl, Touch.refl _ _, by simpa [full] using HLs1.out⟩
        case round =>
          obtain ⟨q, hq, rfl, htq, hhq⟩ := hrel
          by_cases hql : q < l.length
          · obtain ⟨y, hy⟩ : ∃ y, (ints (full m q ++ l.drop q))[q]? = some y := ⟨_, List.getElem?_eq_getElem (by simp [ints, full_length]; omega)⟩
            obtain ⟨g, cp, ev, cq⟩ := row_val hhq q y hy
            simp only [Value.slice.injEq, true_and] at ev
            obtain ⟨rfl, -⟩ := ev
            have zq : wr.frozen? ⟨g, q, none⟩ = false := row_frozen hhq
            have hqi : (q : Int) < l.length := by omega
            have h2 := row_set hhq q (.int .i64 (m + 3 * (q : Int)))
            rw [full_step m l q hql] at h2
            have H2 : Hid ((wr.setCell ⟨g, q, none⟩ (.int .i64 (m + 3 * (q : Int)))).ownsRow base 3 1 (.slice (some ⟨g, 0, none⟩) l.length vc0) l.length (ints (full m (q + 1) ++ l.drop (q + 1)))) := h2
            have HTq : Hid (Touch (Value.slice (some ⟨g, 0, none⟩) l.length vc0).ownBlock.toList w1s (wr.setCell ⟨g, q, none⟩ (.int .i64 (m + 3 * (q : Int))))) := htq.trans (Touch.setCell _ _ _ (by simp [Value.ownBlock]))
            clear h2 hhq htq hy
            go_wp2
            go_roundw
            case rel => exact ⟨q + 1, by omega, by go_num, HTq.out, H2.out⟩
            case measure => simp [intOf]; omega
          · obtain rfl : q = l.length := by omega
            rw [List.drop_length, List.append_nil] at hhq
            obtain ⟨wb, hwb⟩ : ∃ x, x = wr := ⟨_, rfl⟩
            subst hwb
            have HTb : Hid (Touch (Value.slice va l.length vc0).ownBlock.toList w1s wb) := htq
            have HLb : Hid (wb.ownsRow base 3 1 (.slice va l.length vc0) l.length (ints (full m l.length))) := hhq
            have HVb : Hid (Iv wb base b f1 xs1 K1) := HMs.out.iv.keep htq (fun q hq ho => HMs.out.iv.ownK ho (HG0.out.1 q (by simpa using hq)))
            have HRb : Hid (Rd wb K1 (.slice va l.length vc0) (ints (full m l.length))) := Rd.row hhq HG0.out.1
            clear htq hhq hql
            go_upto_region 21 with fail
            go_cut [] from 110 to 155 (fun wc => ∃ v', Iv wc base b (put (f1) 13 v') (putl (xs1) 13 ((xs1) 13 ++ [.slice va l.length vc0])) (K1) ∧ Ex wb wc b (f1) (put (f1) 13 v') (K1) (K1))
            case first =>
              obtain ⟨aj, pj, ej⟩ := row_sl (HVb.out.own 13 (by decide) (by decide))
              have cj := HVb.out.bk.cell 13
              rw [ej] at cj
              have hrow := HVb.out.own 13 (by decide) (by decide)
              rw [ej] at hrow
              have Ej : Hid ((f1) 13 = .slice aj ((xs1) 13).length pj) := ej
              have Hrow : Hid (wb.ownsRow base 27 1 (.slice aj ((xs1) 13).length pj) ((xs1) 13).length ((xs1) 13)) := hrow
              have hnj : ((xs1) 13).length < 4000000000 := by have := Hln.out; omega
              clear ej hrow 
              go_wp2_with (at_builtin; refine wpList_append_own_at _ rfl _ _ 40 rfl base 27 i1 (.slice none 0 0) 1 24 Tryz.underlying40 HI.out.b0 HI.out.b1 HI.out.b2 HI.out.b3 rfl (by decide) _ _ _ rfl (Hrow.out.alloc _) ⟨wb.heap.size, 0, none⟩ 1 1 [.slice va l.length vc0] rfl rfl (cell_one_new _ _ _) (by simp [Value.oneCell']) (by simp [maxLen]; omega) (by omega) (by have := HVb.out.lo; have := HVb.out.bk.lt; simp; omega) ?_)
              intro v' w1 hown' hgrow _ hat
              have hbk1 := grow_bk hgrow HVb.out.bk (by rw [← Ej.out]; exact HVb.out.rb 13 (by decide) (by decide))
              have dj := hbk1.cell 13
              rw [Ej.out] at dj
              have fj := hbk1.frozen 13
              have hres := Iv.appEx HVb.out 13 (by decide) (by decide) (.slice va l.length vc0) v' hown' (by rw [Ej.out]; exact (Touch.alloc _ _ _).trans (Touch.grown hgrow (fun k hk => by simp [hk]))) (by rw [Ej.out]; rcases hat with h | h; exact .inl h; exact .inr ⟨_, h, by simp⟩)
              have HR : Hid (Iv (w1.setCell ⟨b, 13, none⟩ v') base b (put (f1) 13 v') (putl (xs1) 13 ((xs1) 13 ++ [.slice va l.length vc0])) (K1) ∧ Ex wb (w1.setCell ⟨b, 13, none⟩ v') b (f1) (put (f1) 13 v') (K1) (K1)) := hres
              obtain ⟨gq, cq, rfl⟩ := row_sl hown'
              clear hown' hgrow hat hbk1 hres cj
              go_wp2_with fail
              go_meet
              exact ⟨_, HR.out⟩
            case rest =>
            obtain ⟨v13, hVe, hEe⟩ := hcut
            obtain ⟨we, hwe⟩ : ∃ x, x = wc := ⟨_, rfl⟩
            subst hwe
            obtain ⟨fe, hfe⟩ : ∃ x, x = put f1 13 v13 := ⟨_, rfl⟩
            obtain ⟨xe, hxe⟩ : ∃ x, x = putl xs1 13 (xs1 13 ++ [.slice va l.length vc0]) := ⟨_, rfl⟩
            rw [← hfe] at hVe hEe
            rw [← hxe] at hVe
            have HVe : Hid (Iv we base b fe xe K1) := hVe
            have HEe : Hid (Ex wb we b f1 fe K1 K1) := hEe
            have Hfe : Hid (fe = put f1 13 v13) := hfe
            have Hxe : Hid (xe = putl xs1 13 (xs1 13 ++ [.slice va l.length vc0])) := hxe
            clear hVe hEe hfe hxe
            have HRe : Hid (Rd we K1 (.slice va l.length vc0) (ints (full m l.length))) := HEe.out.rd HVb.out HRb.out
            go_upto_region 22 with fail
            go_cut [] from 156 to 167 (fun wc => ∃ v' u kk, Iv wc base b (put (fe) 14 v') (putl (xe) 14 ((xe) 14 ++ [u])) (kk :: (K1)) ∧ Ex we wc b (fe) (put (fe) 14 v') (K1) (kk :: (K1)) ∧ u.ownBlock = some kk ∧ we.heap.size ≤ kk ∧ Rd wc (kk :: (K1)) u (ints (full m l.length)))
            case first =>
              obtain ⟨aj, pj, ej⟩ := row_sl (HVe.out.own 14 (by decide) (by decide))
              have cj := HVe.out.bk.cell 14
              rw [ej] at cj
              have cja : (we.alloc (.cells #[] 3)).cell? ⟨b, 14, none⟩ = some (.slice aj ((xe) 14).length pj) := Lib.cell?_alloc_some _ cj
              have hrow := HVe.out.own 14 (by decide) (by decide)
              rw [ej] at hrow
              have Ej : Hid ((fe) 14 = .slice aj ((xe) 14).length pj) := ej
              have Hrow : Hid (we.ownsRow base 27 1 (.slice aj ((xe) 14).length pj) ((xe) 14).length ((xe) 14)) := hrow
              have hnj : ((xe) 14).length < 4000000000 := by rw [Hxe.out, putl_ne _ _ (by decide)]; have := Hln.out; omega
              have hln : (l.length) ≤ 10000000000000 := by omega
              have Hln : Hid ((ints (full m l.length)).length = (l.length)) := (by simp [ints, full_length] : (ints (full m l.length)).length = l.length)
              have Hb : Hid (b < we.heap.size ∧ base ≤ we.heap.size) := ⟨HVe.out.bk.lt, by have := HVe.out.lo; have := HVe.out.bk.lt; omega⟩
              have Hsrc : Hid (∀ (i : Nat) x, (ints (full m l.length))[i]? = some x → ∃ g, va = some ⟨g, 0, none⟩ ∧ we.cell? ⟨g, i, none⟩ = some x) := by (
                obtain ⟨g9, c9, e9, _, h9⟩ := HRe.out
                simp only [Value.slice.injEq] at e9
                rw [e9.1]
                exact h9)
              clear ej hrow 
              go_region_law (first
                | (refine step_append_row rfl (.tmp 161) (.tmp 162) 27 rfl we.heap.size 3 i0 (.int .i64 0) 8 Tryz.underlying27 HI.out.a0 HI.out.a1 HI.out.a2 HI.out.a3 rfl (.slice (some ⟨we.heap.size, 0, none⟩) 0 0) 0 [] rfl (World.ownsRow_lit we.drew #[] 0 (Nat.le_refl _) (by simp [maxLen]) rfl) va (l.length) vc0 (ints (full m l.length)) Hln.out.symm rfl (fun i x hi => by obtain ⟨g9, e9, c9⟩ := Hsrc.out i x hi; exact ⟨⟨g9, 0, none⟩, e9, by rw [Addr.add_mid, Nat.zero_add]; exact Lib.cell?_alloc_some _ c9⟩) (ints_one _) (by simp [maxLen]; omega) (by omega) (by simp) ?_
                   intro u w1 ho1 hg1 hnil1 hat1
                   have hg1' : (we.drew.alloc (.cells #[] 3)).grownBy w1 (some we.heap.size) := hg1
                   have hbk1 := grow_bk hg1' (show Bk we.drew b (fe) from HVe.out.bk) (by simp; have := Hb.out.1; omega)
                   have dj := hbk1.cell 14
                   rw [Ej.out] at dj
                   have dja : (w1.alloc (.cells #[u] 27)).cell? ⟨b, 14, none⟩ = some (.slice aj ((xe) 14).length pj) := Lib.cell?_alloc_some _ dj
                   have ht1 : Touch [] we w1 := ((Touch.drew _ we).trans (Touch.alloc _ _ _)).then (Touch.grown hg1' (F := [we.heap.size]) (fun k hk => by simp at hk; simp [hk])) (fun k hk => by simp at hk; exact .inr (by omega))
                   have hrow1 : w1.ownsRow base 27 1 (.slice aj ((xe) 14).length pj) ((xe) 14).length ((xe) 14) := row_keep2 Hrow.out ht1 (fun k _ h => by cases h)
                   simp only [List.nil_append, Nat.zero_add] at ho1
                   obtain ⟨ug, uc, rfl⟩ := ownsRow_there ho1 (fun e => by have := hnil1 e; cases this)
                   have HU : Hid (w1.ownsRow we.heap.size 3 1 (.slice (some ⟨ug, 0, none⟩) (l.length) uc) (l.length) (ints (full m l.length))) := ho1
                   have HT1 : Hid (Touch [] we w1) := ht1
                   have Hrow1 : Hid (w1.ownsRow base 27 1 (.slice aj ((xe) 14).length pj) ((xe) 14).length ((xe) 14)) := hrow1
                   clear ho1 hg1 hg1' hat1 hbk1 ht1 hrow1 hnil1)
                | (refine step_append_own_at rfl (.tmp 160) (.tmp 164) 40 rfl base 27 i1 (.slice none 0 0) 1 24 Tryz.underlying40 HI.out.b0 HI.out.b1 HI.out.b2 HI.out.b3 rfl (by decide) (.slice aj ((xe) 14).length pj) ((xe) 14).length ((xe) 14) rfl (Hrow1.out.alloc _) ⟨w1.heap.size, 0, none⟩ 1 1 [.slice (some ⟨ug, 0, none⟩) (l.length) uc] rfl rfl (cell_one_new _ _ _) (by simp [Value.oneCell']) (by simp [maxLen]; omega) (by omega) (by have := Hb.out.2; have := HT1.out.size; simp; omega) ?_
                   intro v' wz ho2 hg2 hat2
                   obtain ⟨m1, m2, m3⟩ := copy_ex HVe.out 14 (by decide) (by decide) Ej.out HT1.out HU.out ho2 hg2 hat2
                   have HM1 : Hid (Iv (wz.setCell ⟨b, 14, none⟩ v') base b (put (fe) 14 v') (putl (xe) 14 ((xe) 14 ++ [.slice (some ⟨ug, 0, none⟩) (l.length) uc])) (ug :: (K1)) ∧ Ex we (wz.setCell ⟨b, 14, none⟩ v') b (fe) (put (fe) 14 v') (K1) (ug :: (K1)) ∧ Rd (wz.setCell ⟨b, 14, none⟩ v') (ug :: (K1)) (.slice (some ⟨ug, 0, none⟩) (l.length) uc) (ints (full m l.length))) := ⟨m1, m2, m3⟩
                   have hbk2 := grow_bk hg2 (show Bk w1 b (fe) from HVe.out.bk.touch HT1.out (by simp)) (by rw [← Ej.out]; exact HVe.out.rb 14 (by decide) (by decide))
                   have ej2 := hbk2.cell 14
                   rw [Ej.out] at ej2
                   have fj2 := hbk2.frozen 14
                   obtain ⟨vg, vc, rfl⟩ := row_sl ho2
                   clear ho2 hg2 hat2 m1 m2 m3 hbk2))
              all_goals
                go_wp2_with fail
                go_meet
                exact ⟨_, _, _, HM1.out.1, HM1.out.2.1, rfl, (HU.out.lt ug rfl).1, HM1.out.2.2⟩
            case rest =>
            obtain ⟨v14, u2, kk, hVf, hEf, hok, hsk, hRu⟩ := hcut
            obtain ⟨wf, hwf⟩ : ∃ x, x = wc := ⟨_, rfl⟩
            subst hwf
            obtain ⟨ff, hff⟩ : ∃ x, x = put fe 14 v14 := ⟨_, rfl⟩
            obtain ⟨xf, hxf⟩ : ∃ x, x = putl xe 14 (xe 14 ++ [u2]) := ⟨_, rfl⟩
            rw [← hff] at hVf hEf
            rw [← hxf] at hVf
            have HVf : Hid (Iv wf base b ff xf (kk :: K1)) := hVf
            have HEf : Hid (Ex we wf b fe ff K1 (kk :: K1)) := hEf
            have Hff : Hid (ff = put fe 14 v14) := hff
            have Hxf : Hid (xf = putl xe 14 (xe 14 ++ [u2])) := hxf
            have HRu : Hid (Rd wf (kk :: K1) u2 (ints (full m l.length)) ∧ u2.ownBlock = some kk ∧ we.heap.size ≤ kk) := ⟨hRu, hok, hsk⟩
            clear hVf hEf hff hxf hRu hok hsk
            go_upto_region 23 with fail
            go_cut [] from 168 to 177 (fun wc => ∃ v', Iv wc base b (put (ff) 17 v') (putl (xf) 17 ((xf) 17 ++ [.slice va l.length vc0])) (kk :: K1) ∧ Ex wf wc b (ff) (put (ff) 17 v') (kk :: K1) (kk :: K1))
            case first =>
              obtain ⟨aj, pj, ej⟩ := row_sl (HVf.out.own 17 (by decide) (by decide))
              have cj := HVf.out.bk.cell 17
              rw [ej] at cj
              have hrow := HVf.out.own 17 (by decide) (by decide)
              rw [ej] at hrow
              have Ej : Hid ((ff) 17 = .slice aj ((xf) 17).length pj) := ej
              have Hrow : Hid (wf.ownsRow base 27 1 (.slice aj ((xf) 17).length pj) ((xf) 17).length ((xf) 17)) := hrow
              have hnj : ((xf) 17).length < 4000000000 := by rw [Hxf.out, putl_ne _ _ (by decide), Hxe.out, putl_ne _ _ (by decide)]; have := Hln.out; omega
              clear ej hrow 
              go_wp2_with (at_builtin; refine wpList_append_own_at _ rfl _ _ 40 rfl base 27 i1 (.slice none 0 0) 1 24 Tryz.underlying40 HI.out.b0 HI.out.b1 HI.out.b2 HI.out.b3 rfl (by decide) _ _ _ rfl (Hrow.out.alloc _) ⟨wf.heap.size, 0, none⟩ 1 1 [.slice va l.length vc0] rfl rfl (cell_one_new _ _ _) (by simp [Value.oneCell']) (by simp [maxLen]; omega) (by omega) (by have := HVf.out.lo; have := HVf.out.bk.lt; simp; omega) ?_)
              intro v' w1 hown' hgrow _ hat
              have hbk1 := grow_bk hgrow HVf.out.bk (by rw [← Ej.out]; exact HVf.out.rb 17 (by decide) (by decide))
              have dj := hbk1.cell 17
              rw [Ej.out] at dj
              have fj := hbk1.frozen 17
              have hres := Iv.appEx HVf.out 17 (by decide) (by decide) (.slice va l.length vc0) v' hown' (by rw [Ej.out]; exact (Touch.alloc _ _ _).trans (Touch.grown hgrow (fun k hk => by simp [hk]))) (by rw [Ej.out]; rcases hat with h | h; exact .inl h; exact .inr ⟨_, h, by simp⟩)
              have HR : Hid (Iv (w1.setCell ⟨b, 17, none⟩ v') base b (put (ff) 17 v') (putl (xf) 17 ((xf) 17 ++ [.slice va l.length vc0])) (kk :: K1) ∧ Ex wf (w1.setCell ⟨b, 17, none⟩ v') b (ff) (put (ff) 17 v') (kk :: K1) (kk :: K1)) := hres
              obtain ⟨gq, cq, rfl⟩ := row_sl hown'
              clear hown' hgrow hat hbk1 hres cj
              go_wp2_with fail
              go_meet
              exact ⟨_, HR.out⟩
            case rest =>
            obtain ⟨v17, hVg, hEg⟩ := hcut
            obtain ⟨wg, hwg⟩ : ∃ x, x = wc := ⟨_, rfl⟩
            subst hwg
            obtain ⟨fg, hfg⟩ : ∃ x, x = put ff 17 v17 := ⟨_, rfl⟩
            obtain ⟨xg, hxg⟩ : ∃ x, x = putl xf 17 (xf 17 ++ [.slice va l.length vc0]) := ⟨_, rfl⟩
            rw [← hfg] at hVg hEg
            rw [← hxg] at hVg
            have HVg : Hid (Iv wg base b fg xg (kk :: K1)) := hVg
            have HEg : Hid (Ex wf wg b ff fg (kk :: K1) (kk :: K1)) := hEg
            have Hfg : Hid (fg = put ff 17 v17) := hfg
            have Hxg : Hid (xg = putl xf 17 (xf 17 ++ [.slice va l.length vc0])) := hxg
            clear hVg hEg hfg hxg
            go_upto_region 24 with fail
            obtain ⟨aj, pj, ej⟩ := row_sl (HVg.out.own 20 (by decide) (by decide))
            have cj := HVg.out.bk.cell 20
            rw [ej] at cj
            have hrow := HVg.out.own 20 (by decide) (by decide)
            rw [ej] at hrow
            have Ej : Hid ((fg) 20 = .slice aj ((xg) 20).length pj) := ej
            have Hrow : Hid (wg.ownsRow base 3 1 (.slice aj ((xg) 20).length pj) ((xg) 20).length ((xg) 20)) := hrow
            have hnj : ((xg) 20).length < 4000000000 := by rw [Hxg.out, putl_ne _ _ (by decide), Hxf.out, putl_ne _ _ (by decide), Hxe.out, putl_ne _ _ (by decide)]; have := Hln.out; omega
            clear ej hrow 
            go_wp2_with (at_builtin; refine wpList_append_own_at _ rfl _ _ 27 rfl base 3 i0 (.int .i64 0) 1 8 Tryz.underlying27 HI.out.a0 HI.out.a1 HI.out.a2 HI.out.a3 rfl (by decide) _ _ _ rfl (Hrow.out.alloc _) ⟨wg.heap.size, 0, none⟩ 1 1 [.int .i64 m] rfl rfl (cell_one_new _ _ _) (by simp [Value.oneCell']) (by simp [maxLen]; omega) (by omega) (by have := HVg.out.lo; have := HVg.out.bk.lt; simp; omega) ?_)
            intro v' w1 hown' hgrow _ hat
            have hbk1 := grow_bk hgrow HVg.out.bk (by rw [← Ej.out]; exact HVg.out.rb 20 (by decide) (by decide))
            have dj := hbk1.cell 20
            rw [Ej.out] at dj
            have fj := hbk1.frozen 20
            have hres := Iv.appEx HVg.out 20 (by decide) (by decide) (.int .i64 m) v' hown' (by rw [Ej.out]; exact (Touch.alloc _ _ _).trans (Touch.grown hgrow (fun k hk => by simp [hk]))) (by rw [Ej.out]; rcases hat with h | h; exact .inl h; exact .inr ⟨_, h, by simp⟩)
            have HR : Hid (Iv (w1.setCell ⟨b, 20, none⟩ v') base b (put (fg) 20 v') (putl (xg) 20 ((xg) 20 ++ [.int .i64 m])) (kk :: K1) ∧ Ex wg (w1.setCell ⟨b, 20, none⟩ v') b (fg) (put (fg) 20 v') (kk :: K1) (kk :: K1)) := hres
            obtain ⟨gq, cq, rfl⟩ := row_sl hown'
            clear hown' hgrow hat hbk1 hres cj
            go_wp2
            go_roundw
            case rel =>
              have hEE := HEe.out.trans (HEf.out.trans (HEg.out.trans HR.out.2))
              obtain ⟨hMn, hEn⟩ := HMs.out.marked (l' := full m l.length) HV.out.1 HV.out.2.2.1 m0 m1 HG0.out.1 (by rw [full_length]; exact l16) HTb.out (by show wb.ownsRow base 3 1 _ (full m l.length).length _; rw [full_length]; exact HLb.out) Hxe.out Hxf.out Hxg.out rfl HR.out.1 hEE ((HEg.out.trans HR.out.2).rd HVf.out HRu.out.1) HRu.out.2.1 (by obtain ⟨G, t1, _⟩ := HEe.out.t; have := t1.size; have := HTb.out.size; have := HRu.out.2.2; omega) (fun j hj => by rw [put_ne _ _ (by omega), Hfg.out, put_ne _ _ (by omega), Hff.out, put_ne _ _ (by omega), Hfe.out, put_ne _ _ (by omega)])
              exact ⟨k + 1, by omega, by go_num, _, _, _, _, _, _, hMn, HEy.out.trans (HEs.out.ey.trans hEn)⟩
            case measure => simp [intOf]; omega
    · obtain rfl : k = A.length := by omega
      have HM : Hid (Mk wr base b f f1 xs1 K1 ms1 ds1 fm1 A N ms ds (.slice (some ⟨gA, 0, none⟩) A.length pA) (.slice (some ⟨gN, 0, none⟩) A.length pN) (.slice (some ⟨gM, 0, none⟩) A.length pM) (.slice (some ⟨gD, 0, none⟩) A.length pD) (xs 13).length A.length) := hM
      clear hM
      go_wp2
      go_end0
      rw [← HQ.out]
      have hM := HM.out
      have hd := hM.dst
      rw [List.drop_length, List.append_nil] at hd
      have hf9 := hM.fs
      have hnl : N.drop A.length = [] := by rw [← HLs.out.1]; simp
      rw [hnl, List.append_nil] at hf9
      exact ⟨rfl, f1, xs1, K1, ms1, ds1, fm1, hM.iv, hM.pr, hM.wt, hM.e18, hM.e19, hM.l19, hM.fr, hM.e20, hd.less (List.Sublist.refl _) (fun u hu => by simp at hu ⊢; rcases hu with hu | hu | hu | hu <;> simp [hu]), hf9, hM.fx, HEy.out, hM.ln.1, hM.ln.2⟩

end Go.Proofs.YtbgnagjhkfkekaaGreatDoor.Kg
