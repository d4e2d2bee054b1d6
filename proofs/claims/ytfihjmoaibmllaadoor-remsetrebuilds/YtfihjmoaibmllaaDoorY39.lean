/-
  RemsetRebuilds.
-/
import Derived.Test.YtfihjmoaibmllaaDoorPYd
import Derived.Test.YtfihjmoaibmllaaDoorYB
import Derived.Deep.CutRange
import Derived.Laws.CopyOwn
set_option linter.unusedVariables false
set_option maxRecDepth 20000
namespace Go.Proofs.YtfihjmoaibmllaaDoor
open Go.RowKit Go.Shelf

set_option maxHeartbeats 8000000 in
theorem rebuilds_any (cp : Cfg) (a0 : Option Addr) (cap0 : Nat) (P : List LT) (da : Option Addr) (dcap : Nat) (D : List DeedG) (n0 nD : Nat) (hn0 : n0 = P.length) (hnD : nD = D.length) (w : World) (hL : Laid w) (hP : Prd w.heap.size w (.slice a0 P.length cap0) P) (hpi : ∀ o, o ∈ P → ∀ z, z ∈ o.ps → InI z) (hPl : P.length ≤ 1172812402961) (hD : LDeeds w.heap.size w da D) (hDl : D.length ≤ 9223372036854775807) :
    Calls Tryd.prog 3 #[pv cp (.slice a0 n0 cap0), .slice da nD dcap] w fun e w' => e = .returned (.bool true) ∧ Below w.heap.size w w' := by
  have HLa : Hid (Laid w) := hL
  have HPr : Hid (Prd w.heap.size w (.slice a0 P.length cap0) P ∧ (∀ o, o ∈ P → ∀ z, z ∈ o.ps → InI z) ∧ P.length ≤ 1172812402961 ∧ n0 = P.length) := ⟨hP, hpi, hPl, hn0⟩
  have HD : Hid (LDeeds w.heap.size w da D ∧ D.length ≤ 9223372036854775807 ∧ nD = D.length) := ⟨hD, hDl, hnD⟩
  clear hL hP hpi hPl hD hDl hn0 hnD
  go_enter Tryd.func3, Tryd.ntmps3
  go_upto_region 1 with fail
  have p0 := Pd.new w cp (.slice a0 n0 cap0)
  have b0 : Below w.heap.size w (w.alloc (.cells (pcells cp (.slice a0 n0 cap0)) 26)) := Below.alloc (Below.refl _ _) (Nat.le_refl _) _
  obtain ⟨v1, hv1⟩ : ∃ v1, v1 = w.alloc (.cells (pcells cp (.slice a0 n0 cap0)) 26) := ⟨_, rfl⟩
  obtain ⟨B, hB⟩ : ∃ B, B = w.heap.size := ⟨_, rfl⟩
  show Code.wp _ _ _ _ (w.alloc (.cells (pcells cp (.slice a0 n0 cap0)) 26))
  rw [← hv1] at p0 b0 ⊢
  rw [← hB] at p0 ⊢
  have HP1 : Hid (Pd v1 B cp (.slice a0 n0 cap0)) := p0
  have HB1 : Hid (Below w.heap.size w v1) := b0
  have hkn := known6_any v1 (HLa.out.keep b0)
  clear p0 b0 hv1 hB
  go_wp2_with fail
  refine hkn.mono ?_
  rintro e w2 ⟨rfl, l2⟩
  have HP2 : Hid (Pd w2 B cp (.slice a0 n0 cap0)) := HP1.out.below l2
  have HB2 : Hid (Below w.heap.size w w2) := HB1.out.trans (l2.mono HB1.out.size)
  clear hkn l2 HP1 HB1 v1
  have k0 : w2.cell? ⟨B, 0, none⟩ = some (.int .i64 cp.eden) := HP2.out.cell 0
  have k1 : w2.cell? ⟨B, 1, none⟩ = some (.int .i64 cp.surv) := HP2.out.cell 1
  have k2 : w2.cell? ⟨B, 2, none⟩ = some (.int .i64 cp.ten) := HP2.out.cell 2
  have k3 : w2.cell? ⟨B, 3, none⟩ = some (.int .i64 cp.large) := HP2.out.cell 3
  have k4 : w2.cell? ⟨B, 4, none⟩ = some (.int .i64 cp.floor) := HP2.out.cell 4
  have k5 : w2.cell? ⟨B, 5, none⟩ = some (.int .i64 cp.num) := HP2.out.cell 5
  have k6 : w2.cell? ⟨B, 6, none⟩ = some (.int .i64 cp.den) := HP2.out.cell 6
  have k7 : w2.cell? ⟨B, 7, none⟩ = some (.int .i64 cp.target) := HP2.out.cell 7
  have k8 : w2.cell? ⟨B, 8, none⟩ = some (.int .i64 cp.maxAge) := HP2.out.cell 8
  have k9 : w2.cell? ⟨B, 9, none⟩ = some (.int .i64 cp.threads) := HP2.out.cell 9
  have k10 : w2.cell? ⟨B, 10, none⟩ = some (.int .i64 cp.slots) := HP2.out.cell 10
  have k11 : w2.cell? ⟨B, 11, none⟩ = some (.int .i64 cp.handles) := HP2.out.cell 11
  have k12 : w2.cell? ⟨B, 12, none⟩ = some (.int .i64 cp.buffer) := HP2.out.cell 12
  have k13 : w2.cell? ⟨B, 13, none⟩ = some (.int .i64 cp.workers) := HP2.out.cell 13
  have k14 : w2.cell? ⟨B, 14, none⟩ = some (.slice a0 n0 cap0) := HP2.out.cell 14
  have hun : Calls Tryd.prog 7 #[pv cp (.slice a0 n0 cap0)] w2 fun e w' => ∃ a m, e = .returned (pv cp (.slice a n0 m)) ∧ w'.ownsRow 0 51 11 (.slice a P.length m) P.length (lflat (P.map unh)) ∧ Below w2.heap.size w2 w' := by
    have h := unheld_any cp (.slice a0 P.length cap0) P w.heap.size w2 HB2.out.size (HPr.out.1.below HB2.out) HPr.out.2.2.1
    rw [HPr.out.2.2.2]
    exact h
  clear HP2
  go_wp2_with fail
  refine hun.mono ?_
  rintro e w3 ⟨ua, um, rfl, hrow, l3⟩
  have HB3 : Hid (Below w.heap.size w w3) := HB2.out.trans (l3.mono HB2.out.size)
  have hprd : Prd w3.heap.size w3 (.slice ua (P.map unh).length um) (P.map unh) := by
    have h := Prd.of_row (P := P.map unh) (v := .slice ua P.length um) (w := w3) (by rw [List.length_map]; exact hrow) (fun o ho => by
      obtain ⟨o', ho', rfl⟩ := List.mem_map.1 ho
      obtain ⟨i, hi⟩ := List.getElem?_of_mem ho'
      obtain ⟨a9, c9, -, hh⟩ := HPr.out.1
      obtain ⟨h1, h2, h3, -⟩ := hh i o' hi
      exact ⟨unh_in h1, (h2.below HB3.out).mono HB3.out.size, (h3.below HB3.out).mono HB3.out.size⟩)
    rw [List.length_map]
    exact h
  have hfx := fix_core cp ua um (P.map unh) w3.heap.size n0 (by rw [List.length_map]; exact HPr.out.2.2.2) w3 (Nat.le_refl _) hprd (fun o ho z hz => by
    obtain ⟨o', ho', rfl⟩ := List.mem_map.1 ho
    exact HPr.out.2.1 o' ho' z hz)
  clear hun k0 k1 k2 k3 k4 k5 k6 k7 k8 k9 k10 k11 k12 k13 k14 hrow l3 hprd HB2
  go_wp2_with fail
  refine hfx.mono ?_
  rintro e w4 ⟨lb, c, L, rfl, hly, ok, hlen, hlk, -, b4⟩
  have HB4 : Hid (Below w.heap.size w w4) := HB3.out.trans (b4.mono HB3.out.size)
  have HO : Hid (LOk c L ∧ ∀ T, T ∈ L → T.h = false) := ⟨ok, fun T hT => by
    obtain ⟨i, hi⟩ := List.getElem?_of_mem hT
    have hil := (List.getElem?_eq_some_iff.1 hi).1
    have hiP : i < (P.map unh).length := by omega
    have hf := (hlk.fx i _ T (List.getElem?_eq_getElem hiP) hi).h
    rw [hf, List.getElem_map]
    split
    · rfl
    · rfl⟩
  have hla : Laid w4 := HLa.out.keep HB4.out
  have hbu := build_any hly (Nat.le_refl _) ok hla hla.lt0 hla.lt1
  have HLy : Hid (Ly w4.heap.size w4 lb c L) := hly
  clear hfx HB3 hly ok hlen hlk b4 hla
  go_wp2_with fail
  refine hbu.mono ?_
  rintro e w5 ⟨b, rfl, g, ws, th, hbq, sk, hfull⟩
  have HBq : Hid (Bq w4 w4.heap.size w5 b g c (tps c L) false ws th) := hbq
  have HSk : Hid (Sk L th ∧ ∀ T, T ∈ th → Full L T) := ⟨sk, hfull⟩
  have hnw := sNew_any b w5
  clear hbu hbq sk hfull
  go_wp2_with fail
  refine hnw.mono ?_
  rintro e w6 ⟨rfl, hrs, l6⟩
  have hR := Rm.start HBq.out (Nat.le_refl _) hrs l6
  obtain ⟨mb, hmb⟩ : ∃ m, m = w5.heap.size := ⟨_, rfl⟩
  rw [← hmb] at hR ⊢
  have HR : Hid (Rm w4 w4.heap.size w6 (mb + 1) b g mb (.slice none 0 0) c (tps c L) false ws th [] 0 (fun a => decide (a ∈ ([] : List Int)))) := hR
  clear hnw hrs l6 hR HBq hmb
  go_upto_region 11 with fail
  have hmm : (w6.alloc (.cells #[.pointer (some ⟨lb, 0, none⟩), .pointer (some ⟨b, 0, none⟩), .pointer (some ⟨mb + 1, 0, none⟩)] 39)).heap[w6.heap.size]? = some (.cells #[.pointer (some ⟨lb, 0, none⟩), .pointer (some ⟨b, 0, none⟩), .pointer (some ⟨mb + 1, 0, none⟩)] 39 (0, 0)) := heap_alloc_new w6 _
  have b7 : Below w6.heap.size w6 (w6.alloc (.cells #[.pointer (some ⟨lb, 0, none⟩), .pointer (some ⟨b, 0, none⟩), .pointer (some ⟨mb + 1, 0, none⟩)] 39)) := Below.alloc (Below.refl _ _) (Nat.le_refl _) _
  have HR7 : Hid (Rm w4 w4.heap.size (w6.alloc (.cells #[.pointer (some ⟨lb, 0, none⟩), .pointer (some ⟨b, 0, none⟩), .pointer (some ⟨mb + 1, 0, none⟩)] 39)) (mb + 1) b g mb (.slice none 0 0) c (tps c L) false ws th [] 0 (fun a => decide (a ∈ ([] : List Int)))) := HR.out.below b7
  generalize w6.alloc (.cells #[.pointer (some ⟨lb, 0, none⟩), .pointer (some ⟨b, 0, none⟩), .pointer (some ⟨mb + 1, 0, none⟩)] 39) = w7 at hmm HR7 ⊢
  generalize w6.heap.size = mm at hmm ⊢
  have HMm : Hid (Mm w7 mm lb b (mb + 1)) := ⟨hmm⟩
  have hfd := fields6_any (HLy.out.below HR7.out.bq.be) HR7.out.bq.be.size HO.out.1.len (fun T hT => by
    obtain ⟨i, hi⟩ := List.getElem?_of_mem hT
    exact (HO.out.1.plc i T hi).few.1)
  clear HR b7 hmm
  go_wp2_with fail
  refine hfd.mono ?_
  rintro e w8 ⟨fv, rfl, Fr, hF, hFr, l8⟩
  have HA : Hid (Al w4 w4.heap.size w8 mm lb b (mb + 1) g mb (.slice none 0 0) c (tps c L) ws th [] 0 (fun a => decide (a ∈ ([] : List Int))) L fv Fr w7.heap.size) := ⟨HMm.out.below l8, (HLy.out.below HR7.out.bq.be).below (l8.mono HR7.out.bq.be.size), HR7.out.below l8, hF, HR7.out.bq.be.size⟩
  obtain ⟨n2, hn2⟩ : ∃ n, n = w7.heap.size := ⟨_, rfl⟩
  rw [← hn2] at HA
  have HFr : Hid (Fr.map (·.2) = L.map (fun T => List.replicate T.ps.length 0)) := hFr
  clear hfd hF hFr l8 HR7 HMm hn2
  go_wp2_with fail
  obtain ⟨N, hN⟩ : ∃ n, n = L.length := ⟨_, rfl⟩
  have HN : Hid (N = L.length ∧ N ≤ 400) := ⟨hN, by rw [hN]; exact HO.out.1.len⟩
  have HFl : Hid (Fr.length = N ∧ ∀ (i : Nat) p T, Fr[i]? = some p → L[i]? = some T → p.2.length = T.ps.length ∧ (i + 1 < 1 → p.2 = T.ps)) := ⟨by
    have h := congrArg List.length HFr.out
    rw [List.length_map, List.length_map] at h
    omega, fun i p T hp hT => ⟨by
    have h := congrArg (fun l => l[i]?) HFr.out
    simp only [List.getElem?_map, hp, hT, Option.map_some, Option.some.injEq] at h
    rw [h, List.length_replicate], fun h => by omega⟩⟩
  obtain ⟨fa, fcap, hfv⟩ := own_sl HA.out.fd.row
  rw [HFl.out.1] at hfv
  subst hfv
  have hNb : N ≤ 400 := HN.out.2
  clear hN HFr
  go_loopw [13] (fun v13 wr => ∃ k : Nat, 1 ≤ k ∧ k ≤ N + 1 ∧ v13 = .int .i64 k ∧ ∃ Fr', Hid (Al w4 w4.heap.size wr mm lb b (mb + 1) g mb (.slice none 0 0) c (tps c L) ws th [] 0 (fun a => decide (a ∈ ([] : List Int))) L (.slice fa N fcap) Fr' n2) ∧ Hid (Fr'.length = N ∧ ∀ (i : Nat) p T, Fr'[i]? = some p → L[i]? = some T → p.2.length = T.ps.length ∧ (i + 1 < k → p.2 = T.ps))) (fun v13 _ => N + 1 - (intOf v13).toNat)
  case atStart => exact ⟨1, by omega, by omega, rfl, Fr, HA, HFl⟩
  case round =>
    obtain ⟨k, hk1, hk, rfl, F2, HA2, HF2⟩ := hrel
    clear HA HFl
    obtain ⟨tv, h14, ta, tcap, rfl, hthings⟩ := HA2.out.ly.things
    rw [← HN.out.1] at h14
    by_cases hkl : k ≤ N
    · have hkI : (k : Int) ≤ (N : Int) := by omega
      obtain ⟨j, hj⟩ : ∃ j, k = j + 1 := ⟨k - 1, by omega⟩
      subst hj
      obtain ⟨T, hT⟩ : ∃ T, L[j]? = some T := ⟨_, List.getElem?_eq_getElem (by have := HN.out.1; omega)⟩
      obtain ⟨p, hp⟩ : ∃ p, F2[j]? = some p := ⟨_, List.getElem?_eq_getElem (by have := HF2.out.1; omega)⟩
      obtain ⟨-, ⟨pa, pc, hvp, hpc, hprd⟩, -, tq, toff, rfl, htq, hcs⟩ := hthings j T hT
      have hlp := (HF2.out.2 j p T hp hT).1
      obtain ⟨np, hnp⟩ : ∃ n, n = T.ps.length := ⟨_, rfl⟩
      have x8 : wr.cell? ⟨tq, toff + j * 11 + 8, none⟩ = some (.slice pa np pc) := by rw [hnp, ← hvp]; exact hcs 8 (by decide)
      obtain ⟨fq, fc, e1, hfq, xf⟩ := HA2.out.fd.at_ hp
      simp only [Value.slice.injEq] at e1
      obtain ⟨e1, -, -⟩ := e1
      subst e1
      have xf' : wr.cell? ⟨fq, j, none⟩ = some (.slice (some ⟨p.1, 0, none⟩) np np) := by rw [xf]; unfold fval; rw [hlp, ← hnp]
      have HTp : Hid (L[j]? = some T ∧ F2[j]? = some p ∧ p.2.length = T.ps.length ∧ np = T.ps.length) := ⟨hT, hp, hlp, hnp⟩
      have hnpb : np ≤ 60 := by rw [hnp]; exact (HO.out.1.plc j T hT).few.1
      have Hprd : Hid (∀ (f : Nat) z, T.ps[f]? = some z → ∃ q off, pa = some ⟨q, off, none⟩ ∧ q < w4.heap.size ∧ wr.cell? ⟨q, off + f, none⟩ = some (.int .i64 z)) := hprd
      have hnext : ∀ F3 : List (Nat × List Int), F3 = F2.set j (p.1, T.ps) → F3.length = N ∧ ∀ (i : Nat) p' T', F3[i]? = some p' → L[i]? = some T' → p'.2.length = T'.ps.length ∧ (i + 1 < j + 1 + 1 → p'.2 = T'.ps) := fun F3 e => by
        subst e
        refine ⟨by rw [List.length_set]; exact HF2.out.1, fun i p' T' h1 h2 => ?_⟩
        rcases set_at_of h1 with ⟨rfl, rfl⟩ | ⟨hne, h1⟩
        · rw [hT] at h2
          simp at h2
          subst h2
          exact ⟨rfl, fun _ => rfl⟩
        · obtain ⟨q1, q2⟩ := HF2.out.2 i p' T' h1 h2
          exact ⟨q1, fun h => q2 (by omega)⟩
      have Hnext : Hid (∀ F3 : List (Nat × List Int), F3 = F2.set j (p.1, T.ps) → F3.length = N ∧ ∀ (i : Nat) p' T', F3[i]? = some p' → L[i]? = some T' → p'.2.length = T'.ps.length ∧ (i + 1 < j + 1 + 1 → p'.2 = T'.ps)) := hnext
      clear hthings hcs hvp hpc hprd xf hT hp hlp hnp htq hfq hnext
      have bd := below_drewN (Below.refl wr.heap.size wr) 1
      have HA3 : Hid (Al w4 w4.heap.size wr.drew mm lb b (mb + 1) g mb (.slice none 0 0) c (tps c L) ws th [] 0 (fun a => decide (a ∈ ([] : List Int))) L (.slice (some ⟨fq, 0, none⟩) N fcap) F2 n2) := HA2.out.below bd
      have hpm := List.mem_of_getElem? HTp.out.2.1
      have hpcell := (HA3.out.fd.rows p hpm).1
      clear hpm
      go_upto_region 17 with fail
      refine quiet_tail 14 mixed (by kernel_rfl) ?_
      simp only [List.take_succ_cons, List.take_zero, List.drop_succ_cons, List.drop_zero]
      iterate 14 (go_big_quiet_step (fail))
      refine wpQuiet_nil ?_
      cases pa with
      | none =>
        have hp0 : T.ps = [] := by
          cases hps : T.ps with
          | nil => rfl
          | cons y ys =>
            obtain ⟨q, off, e, -⟩ := Hprd.out 0 y (by rw [hps]; rfl)
            cases e
        have hn0 : np = 0 := by rw [HTp.out.2.2.2, hp0]; rfl
        have hr := run_copy_none (P := Tryd.prog) wr.drew 42 42 3 3 (some ⟨p.1, 0, none⟩) none np np np pc Tryd.underlying42 (by kernel_rfl) (by rw [hn0]; rfl)
        have hF3 : F2 = F2.set j (p.1, T.ps) := by
          have h2 : p.2 = T.ps := by rw [hp0]; exact List.eq_nil_of_length_eq_zero (by rw [HTp.out.2.2.1, hp0]; rfl)
          rw [← h2]
          have := HTp.out.2.1
          obtain ⟨h3, h4⟩ := List.getElem?_eq_some_iff.1 this
          rw [← h4]
          exact (List.set_getElem_self h3).symm
        have HF3 : Hid (F2 = F2.set j (p.1, T.ps)) := hF3
        clear hF3 hn0 hp0
        go_wp2_with fail
        go_roundw
        case rel => exact ⟨j + 1 + 1, by omega, by omega, by go_num, F2, HA3, Hnext.out F2 HF3.out⟩
        case measure => simp [intOf]; omega
      | some ad =>
        have hsrc : ∀ f u, (ints T.ps)[f]? = some u → wr.drew.cell? (ad.add f) = some u := fun f u hu => by
          rw [List.getElem?_map] at hu
          cases hz : T.ps[f]? with
          | none => rw [hz] at hu; simp at hu
          | some z =>
            rw [hz] at hu
            simp at hu
            obtain ⟨q, off, e1, e2, e3⟩ := Hprd.out f z hz
            simp at e1
            subst e1
            rw [plus_y, ← hu]
            exact e3
        have hil : (ints T.ps).length = np := by rw [List.length_map]; exact HTp.out.2.2.2.symm
        have hic : (ints p.2).length = np := by rw [List.length_map, HTp.out.2.2.1]; exact HTp.out.2.2.2.symm
        have hr := run_copy_row (P := Tryd.prog) wr.drew 42 42 3 3 p.1 0 np np ad np pc (ints p.2).toArray 3 (ints T.ps) Tryd.underlying42 (by kernel_rfl) hpcell (by rw [hil]; exact (Nat.min_self _).symm) hsrc (by simp [hil, hic]) (fun u hu => by obtain ⟨z, -, rfl⟩ := List.mem_map.1 hu; rfl)
        have he : (ints p.2).toArray.toList.take 0 ++ ints T.ps ++ (ints p.2).toArray.toList.drop (0 + (ints T.ps).length) = ints T.ps := by
          rw [List.take_zero, List.nil_append, List.drop_of_length_le (by rw [hil, Nat.zero_add]; exact Nat.le_of_eq hic), List.append_nil]
        rw [he] at hr
        have hrow : (wr.drew.setRow p.1 (ints T.ps).toArray).heap[p.1]? = some (.cells (ints T.ps).toArray 3 (0, 0)) := setRow_heap _ _ _ _ _ _ hpcell
        have HA4 : Hid (Al w4 w4.heap.size (wr.drew.setRow p.1 (ints T.ps).toArray) mm lb b (mb + 1) g mb (.slice none 0 0) c (tps c L) ws th [] 0 (fun a => decide (a ∈ ([] : List Int))) L (.slice (some ⟨fq, 0, none⟩) N fcap) (F2.set j (p.1, T.ps)) n2) := HA3.out.field HTp.out.2.1 T.ps ⟨rfl, rfl, rfl, by simp [World.setRow], fun q hq hne => setRow_other _ _ _ _ (by simpa using hne)⟩ hrow HTp.out.2.2.1.symm
        clear he hsrc
        go_wp2_with fail
        go_roundw
        case rel => exact ⟨j + 1 + 1, by omega, by omega, by go_num, _, HA4, Hnext.out _ rfl⟩
        case measure => simp [intOf]; omega
    · have hkI : ¬ (k : Int) ≤ (N : Int) := by omega
      have hke : k = N + 1 := by omega
      have HF5 : Hid (F2.length = N ∧ F2.map (·.2) = L.map (·.ps)) := ⟨HF2.out.1, by
        apply List.ext_getElem?
        intro i
        rw [List.getElem?_map, List.getElem?_map]
        rcases Nat.lt_or_ge i N with h | h
        · have h1 := List.getElem?_eq_getElem (l := F2) (i := i) (by have := HF2.out.1; omega)
          have h2 := List.getElem?_eq_getElem (l := L) (i := i) (by have := HN.out.1; omega)
          have := (HF2.out.2 i _ _ h1 h2).2 (by omega)
          rw [h1, h2]
          simp [this]
        · rw [List.getElem?_eq_none (by have := HF2.out.1; omega), List.getElem?_eq_none (by have := HN.out.1; omega)]
          rfl⟩
      clear hthings HF2
      go_wp2_with fail
      have HDk : Hid (Sk L th ∧ Ag L th (F2.map (·.2)) ∧ (∀ T, T ∈ th → T.h = false) ∧ F2.length = N) := by
        have key : ∀ T, T ∈ th → ∃ o, ob L T.no = some o ∧ L[T.no - 1]? = some o := fun T hT => by
          obtain ⟨n, o, e1, e2, e3, e4, -⟩ := HSk.out.1.of T hT
          have e : L[T.no - 1]? = some o := by rw [e1]; exact e2
          exact ⟨o, by rw [e1]; exact ob_at e2 e3 e4, e⟩
        show Sk L th ∧ Ag L th (F2.map (·.2)) ∧ (∀ T, T ∈ th → T.h = false) ∧ F2.length = N
        refine ⟨HSk.out.1, ⟨by rw [List.length_map, HF5.out.1]; exact HN.out.1, fun T hT fs hf => ?_, fun fs hf z hz => ?_, fun fs hf => ?_⟩, fun T hT => ?_, HF5.out.1⟩
        · obtain ⟨o, h1, h2⟩ := key T hT
          rw [HF5.out.2, List.getElem?_map, h2] at hf
          simp at hf
          subst hf
          exact (HSk.out.2 T hT o h1).1
        · rw [HF5.out.2] at hf
          obtain ⟨o, ho, rfl⟩ := List.mem_map.1 hf
          rcases HO.out.1.ptr o ho z hz with h | h
          · unfold InI; omega
          · obtain ⟨U, hU⟩ := thr_iff.1 h
            obtain ⟨h1, h2, -⟩ := ob_some.1 hU
            have := (List.getElem?_eq_some_iff.1 h2).1
            have := HO.out.1.len
            unfold InI
            omega
        · rw [HF5.out.2] at hf
          obtain ⟨o, ho, rfl⟩ := List.mem_map.1 hf
          obtain ⟨i, hi⟩ := List.getElem?_of_mem ho
          exact (HO.out.1.plc i o hi).few.1
        · obtain ⟨o, h1, h2⟩ := key T hT
          rw [(HSk.out.2 T hT o h1).2.2]
          exact HO.out.2 o (List.mem_of_getElem? h2)
      clear HF5 h14 hkI hk hk1 hke HSk
      go_loopw [14] (fun v14 wr => ∃ i : Nat, i ≤ nD ∧ i ≤ 100 ∧ v14 = .int .i64 i ∧ ∃ ws th F3, Hid (Al w4 w4.heap.size wr mm lb b (mb + 1) g mb (.slice none 0 0) c (tps c L) ws th [] 0 (fun a => decide (a ∈ ([] : List Int))) L (.slice fa N fcap) F3 n2) ∧ Hid (Sk L th ∧ Ag L th (F3.map (·.2)) ∧ (∀ T, T ∈ th → T.h = false) ∧ F3.length = N)) (fun v14 _ => 100 - (intOf v14).toNat)
      case atStart => exact ⟨0, Nat.zero_le _, by omega, rfl, ws, th, F2, HA2, HDk⟩
      case round =>
        obtain ⟨i, hi, hi1, rfl, ws3, th3, F3, HA3, HD3⟩ := hrel
        clear HA2 HDk
        go_upto_region 19 with fail
        go_cut [73] from 66 to 72 (fun v73 wc => ∃ nb : Bool, v73 = .bool nb ∧ nb = decide (i < nD ∧ i < 100) ∧ wr = wc)
        case first =>
          by_cases h1 : i < nD
          · have h1I : (i : Int) < (nD : Int) := by omega
            by_cases h2 : i < 100
            · have h2I : (i : Int) < 100 := by omega
              go_wp2_with fail
              go_meet
              exact ⟨_, rfl, (decide_eq_true ⟨h1, h2⟩).symm, rfl⟩
            · have h2I : ¬ (i : Int) < 100 := by omega
              go_wp2_with fail
              go_meet
              exact ⟨_, rfl, (decide_eq_false (fun h => h2 h.2)).symm, rfl⟩
          · have h1I : ¬ (i : Int) < (nD : Int) := by omega
            go_wp2_with fail
            go_meet
            exact ⟨_, rfl, (decide_eq_false (fun h => h1 h.1)).symm, rfl⟩
        case rest =>
        obtain ⟨nb0, rfl, hnb0, rfl⟩ := hcut
        have Hnb0 : Hid (nb0 = decide (i < nD ∧ i < 100)) := hnb0
        clear hnb0
        apply_assumption
        by_cases hii : i < nD ∧ i < 100
        · obtain rfl : nb0 = true := by rw [Hnb0.out]; exact decide_eq_true hii
          obtain ⟨h1, h2⟩ := hii
          have h1I : (i : Int) < (nD : Int) := by omega
          have hbw : Below w.heap.size w wr := HB4.out.trans (HA3.out.rm.bq.be.mono HB4.out.size)
          obtain ⟨o, ho⟩ : ∃ o, D[i]? = some o := ⟨_, List.getElem?_eq_getElem (by have := HD.out.2.2; omega)⟩
          obtain ⟨oi1, oi2, oi3, dq, doff, rfl, hdq, hdc⟩ := HD.out.1.below hbw i o ho
          obtain ⟨oa, of_, ot⟩ := o
          have d0 : wr.cell? ⟨dq, doff + i * 3, none⟩ = some (.int .i64 oa) := hdc 0 (by decide)
          have d1 : wr.cell? ⟨dq, doff + i * 3 + 1, none⟩ = some (.int .i64 of_) := hdc 1 (by decide)
          have d2 : wr.cell? ⟨dq, doff + i * 3 + 2, none⟩ = some (.int .i64 ot) := hdc 2 (by decide)
          have HOi : Hid (InI oa ∧ InI of_ ∧ InI ot) := ⟨oi1, oi2, oi3⟩
          clear hdc oi1 oi2 oi3 ho hdq hbw Hnb0
          go_upto_region 22 with fail
          have b5 : Below wr.heap.size wr (wr.alloc (.cells #[.int .i64 oa, .int .i64 of_, .int .i64 ot] 53)) := Below.alloc (Below.refl _ _) (Nat.le_refl _) _
          have hdd : (wr.alloc (.cells #[.int .i64 oa, .int .i64 of_, .int .i64 ot] 53)).heap[wr.heap.size]? = some (.cells #[.int .i64 oa, .int .i64 of_, .int .i64 ot] 53 (0, 0)) := heap_alloc_new wr _
          have HA5 : Hid (Al w4 w4.heap.size (wr.alloc (.cells #[.int .i64 oa, .int .i64 of_, .int .i64 ot] 53)) mm lb b (mb + 1) g mb (.slice none 0 0) c (tps c L) ws3 th3 [] 0 (fun a => decide (a ∈ ([] : List Int))) L (.slice fa N fcap) F3 n2) := HA3.out.below b5
          generalize wr.alloc (.cells #[.int .i64 oa, .int .i64 of_, .int .i64 ot] 53) = v5 at hdd HA5 ⊢
          generalize wr.heap.size = R at hdd ⊢
          have Hdd : Hid (v5.heap[R]? = some (.cells #[.int .i64 oa, .int .i64 of_, .int .i64 ot] 53 (0, 0))) := hdd
          clear d0 d1 d2 b5 hdd HA3
          have hRl : R < v5.heap.size := (Array.getElem?_eq_some_iff.1 Hdd.out).1
          haveI hinh : Inhabited (Bel v5) := ⟨⟨v5, Below.refl _ _⟩⟩
          have x0 : ∀ p : Bel v5, p.v.cell? ⟨R, 0, none⟩ = some (.int .i64 oa) := fun p => (p.h.cell (p := ⟨R, 0, none⟩) hRl).trans (cell_of_row _ _ 0 _ _ _ Hdd.out)
          have x1 : ∀ p : Bel v5, p.v.cell? ⟨R, 1, none⟩ = some (.int .i64 of_) := fun p => (p.h.cell (p := ⟨R, 1, none⟩) hRl).trans (cell_of_row _ _ 1 _ _ _ Hdd.out)
          have x2 : ∀ p : Bel v5, p.v.cell? ⟨R, 2, none⟩ = some (.int .i64 ot) := fun p => (p.h.cell (p := ⟨R, 2, none⟩) hRl).trans (cell_of_row _ _ 2 _ _ _ Hdd.out)
          have Hth : Hid (∀ z, InI z → ∀ p : Bel v5, Calls Tryd.prog 11 #[.pointer (some ⟨lb, 0, none⟩), .int .i64 z] p.v fun e w' => e = .returned (.bool (thr L z)) ∧ Below p.v.heap.size p.v w') := fun z hz p => there_any (HA5.out.below p.h).ly HO.out.1.len z hz
          go_cut [111] from 80 to 110 (fun v111 wq => ∃ dd : Bool, v111 = .bool dd ∧ Hid (dd = true → thr L oa = true ∧ (ot = 0 ∨ thr L ot = true) ∧ ∃ f : Nat, of_ = f ∧ ∀ pr, F3[(oa - 1).toNat]? = some pr → f < pr.2.length) ∧ Hid (Below v5.heap.size v5 wq))
          case first =>
            have Hta := Hth.out oa HOi.out.1
            cases hA : thr L oa
            · rw [hA] at Hta
              have HTa : Hid (∀ p : Bel v5, Calls Tryd.prog 11 #[.pointer (some ⟨lb, 0, none⟩), .int .i64 oa] p.v fun e w' => e = .returned (.bool false) ∧ Below p.v.heap.size p.v w') := Hta
              clear Hta hA
              refine region_below mixed (by kernel_rfl) ?_
              repeat (go_big_quiet_step (first | (go_at_call 11; exact calls_bel (HTa.out _))))
              refine wpQuiet_nil ?_
              rintro w8 ⟨⟨w8, b8⟩, rfl⟩
              go_wp2_with fail
              go_meet
              exact ⟨_, rfl, fun h => absurd h Bool.false_ne_true, b8⟩
            · rw [hA] at Hta
              have HTa : Hid (∀ p : Bel v5, Calls Tryd.prog 11 #[.pointer (some ⟨lb, 0, none⟩), .int .i64 oa] p.v fun e w' => e = .returned (.bool true) ∧ Below p.v.heap.size p.v w') := Hta
              have HAt : Hid (thr L oa = true) := hA
              clear Hta hA
              by_cases hf0 : 0 ≤ of_
              · have hf0' : decide (0 ≤ of_) = true := decide_eq_true hf0
                obtain ⟨U, hU⟩ := thr_iff.1 HAt.out
                obtain ⟨hU1, hU2, -⟩ := ob_some.1 hU
                obtain ⟨jn, hjn⟩ : ∃ j : Nat, oa = (j : Int) + 1 := ⟨(oa - 1).toNat, by omega⟩
                have hjl : jn < N := by
                  have := (List.getElem?_eq_some_iff.1 hU2).1
                  have := HN.out.1
                  omega
                obtain ⟨pr, hpr⟩ : ∃ p, F3[jn]? = some p := ⟨_, List.getElem?_eq_getElem (by have := HD3.out.2.2.2; omega)⟩
                obtain ⟨fq, fc, e1, hfq, -⟩ := HA5.out.fd.at_ hpr
                simp only [Value.slice.injEq] at e1
                obtain ⟨e1, -, -⟩ := e1
                subst e1
                obtain ⟨nf, hnf⟩ : ∃ n, n = pr.2.length := ⟨_, rfl⟩
                have mq : ∀ p : Bel v5, p.v.cell? ⟨fq, jn, none⟩ = some (.slice (some ⟨pr.1, 0, none⟩) nf nf) := fun p => by
                  obtain ⟨fq', fc', e1, hfq', xq⟩ := (HA5.out.below p.h).fd.at_ hpr
                  simp only [Value.slice.injEq] at e1
                  obtain ⟨e1, -, -⟩ := e1
                  simp only [Option.some.injEq, Addr.mk.injEq] at e1
                  obtain ⟨e1, -⟩ := e1
                  subst e1
                  rw [show fval pr = .slice (some ⟨pr.1, 0, none⟩) nf nf from by rw [hnf]] at xq
                  exact xq
                have Hpr : Hid (oa = (jn : Int) + 1 ∧ F3[jn]? = some pr ∧ nf = pr.2.length) := ⟨hjn, hpr, hnf⟩
                subst hjn
                clear hU hU1 hU2 hpr hnf hfq
                by_cases hfl : of_ < (nf : Int)
                · have hfl' : decide (of_ < (nf : Int)) = true := decide_eq_true hfl
                  have HOk : Hid (∃ f : Nat, of_ = f ∧ ∀ pr, F3[((jn : Int) + 1 - 1).toNat]? = some pr → f < pr.2.length) := ⟨of_.toNat, by omega, fun p' hp' => by
                    rw [show ((jn : Int) + 1 - 1).toNat = jn from by omega, Hpr.out.2.1] at hp'
                    simp at hp'
                    subst hp'
                    have := Hpr.out.2.2
                    omega⟩
                  by_cases ht0 : ot = 0
                  · subst ht0
                    refine region_below mixed (by kernel_rfl) ?_
                    repeat (go_big_quiet_step (first | (go_at_call 11; exact calls_bel (HTa.out _))))
                    refine wpQuiet_nil ?_
                    rintro w8 ⟨⟨w8, b8⟩, rfl⟩
                    go_wp2_with fail
                    go_meet
                    exact ⟨_, rfl, fun _ => ⟨HAt.out, by first | exact .inl rfl | simp, HOk.out⟩, b8⟩
                  · have ht0' : (ot == 0) = false := by simpa using ht0
                    have Htt := Hth.out ot HOi.out.2.2
                    cases hB : thr L ot
                    · rw [hB] at Htt
                      have HTt : Hid (∀ p : Bel v5, Calls Tryd.prog 11 #[.pointer (some ⟨lb, 0, none⟩), .int .i64 ot] p.v fun e w' => e = .returned (.bool false) ∧ Below p.v.heap.size p.v w') := Htt
                      clear Htt hB
                      refine region_below mixed (by kernel_rfl) ?_
                      iterate 3 (go_big_quiet_step (fail))
                      go_big_quiet_step (first | (go_at_call 11; exact calls_bel (HTa.out _)))
                      iterate 25 (go_big_quiet_step (fail))
                      go_big_quiet_step (first | (go_at_call 11; exact calls_bel (HTt.out _)))
                      iterate 2 (go_big_quiet_step (fail))
                      refine wpQuiet_nil ?_
                      rintro w8 ⟨⟨w8, b8⟩, rfl⟩
                      go_wp2_with fail
                      go_meet
                      exact ⟨_, rfl, fun h => absurd h Bool.false_ne_true, b8⟩
                    · rw [hB] at Htt
                      have HTt : Hid (∀ p : Bel v5, Calls Tryd.prog 11 #[.pointer (some ⟨lb, 0, none⟩), .int .i64 ot] p.v fun e w' => e = .returned (.bool true) ∧ Below p.v.heap.size p.v w') := Htt
                      have HBt : Hid (thr L ot = true) := hB
                      clear Htt hB
                      refine region_below mixed (by kernel_rfl) ?_
                      iterate 3 (go_big_quiet_step (fail))
                      go_big_quiet_step (first | (go_at_call 11; exact calls_bel (HTa.out _)))
                      iterate 25 (go_big_quiet_step (fail))
                      go_big_quiet_step (first | (go_at_call 11; exact calls_bel (HTt.out _)))
                      iterate 2 (go_big_quiet_step (fail))
                      refine wpQuiet_nil ?_
                      rintro w8 ⟨⟨w8, b8⟩, rfl⟩
                      go_wp2_with fail
                      go_meet
                      exact ⟨_, rfl, fun _ => ⟨HAt.out, .inr HBt.out, HOk.out⟩, b8⟩
                · have hfl' : decide (of_ < (nf : Int)) = false := decide_eq_false hfl
                  refine region_below mixed (by kernel_rfl) ?_
                  repeat (go_big_quiet_step (first | (go_at_call 11; exact calls_bel (HTa.out _))))
                  refine wpQuiet_nil ?_
                  rintro w8 ⟨⟨w8, b8⟩, rfl⟩
                  go_wp2_with fail
                  go_meet
                  exact ⟨_, rfl, fun h => absurd h Bool.false_ne_true, b8⟩
              · have hf0' : decide (0 ≤ of_) = false := decide_eq_false hf0
                refine region_below mixed (by kernel_rfl) ?_
                repeat (go_big_quiet_step (first | (go_at_call 11; exact calls_bel (HTa.out _))))
                refine wpQuiet_nil ?_
                rintro w8 ⟨⟨w8, b8⟩, rfl⟩
                go_wp2_with fail
                go_meet
                exact ⟨_, rfl, fun h => absurd h Bool.false_ne_true, b8⟩
          case rest =>
          obtain ⟨dd, rfl, Hdo, HB6⟩ := hcut
          have HA6 : Hid (Al w4 w4.heap.size wc mm lb b (mb + 1) g mb (.slice none 0 0) c (tps c L) ws3 th3 [] 0 (fun a => decide (a ∈ ([] : List Int))) L (.slice fa N fcap) F3 n2) := HA5.out.below HB6.out
          have Hdd6 : Hid (wc.heap[R]? = some (.cells #[.int .i64 oa, .int .i64 of_, .int .i64 ot] 53 (0, 0))) := (HB6.out.block R hRl).trans Hdd.out
          clear x0 x1 x2 Hth hinh hRl Hdd HA5 HB6
          apply_assumption
          cases dd
          · go_wp2_with fail
            go_roundw
            case rel => exact ⟨i + 1, by omega, by omega, by go_num, ws3, th3, F3, HA6, HD3⟩
            case measure => simp [intOf]; omega
          · obtain ⟨hta, hto, f, hof, hfl⟩ := Hdo.out rfl
            subst hof
            obtain ⟨o, ho⟩ := thr_iff.1 hta
            obtain ⟨ti, T, hTi, hTn, hMt⟩ := HD3.out.1.find ho
            have hpa : plc L oa = T.at_ := by rw [plc_some ho, hMt.at_]
            obtain ⟨h1o, h2o, -, -⟩ := ob_some.1 ho
            obtain ⟨jn, hjn⟩ : ∃ j : Nat, oa = (j : Int) + 1 := ⟨(oa - 1).toNat, by omega⟩
            have hjl : jn < N := by
              have := (List.getElem?_eq_some_iff.1 h2o).1
              have := HN.out.1
              omega
            obtain ⟨pr, hpr⟩ : ∃ p, F3[jn]? = some p := ⟨_, List.getElem?_eq_getElem (by have := HD3.out.2.2.2; omega)⟩
            have hfn : f < pr.2.length := hfl pr (by rw [show (oa - 1).toNat = jn from by omega]; exact hpr)
            have hno : T.no - 1 = jn := by omega
            have hTps : T.ps = pr.2.map (plc L) := HD3.out.2.1.ps T (List.mem_of_getElem? hTi) pr.2 (by rw [hno, List.getElem?_map, hpr]; rfl)
            have HT : Hid (th3[ti]? = some T ∧ plc L oa = T.at_ ∧ F3[jn]? = some pr ∧ f < pr.2.length ∧ T.no - 1 = jn ∧ 1 ≤ T.no ∧ T.ps = pr.2.map (plc L)) := ⟨hTi, hpa, hpr, hfn, hno, by omega, hTps⟩
            obtain ⟨nf, hnf⟩ : ∃ n, n = pr.2.length := ⟨_, rfl⟩
            have Hnf : Hid (nf = pr.2.length) := hnf
            have hfnf : f < nf := by omega
            have hnfb : nf ≤ 60 := by rw [hnf]; exact HD3.out.2.1.few pr.2 (List.mem_map.2 ⟨pr, List.mem_of_getElem? hpr, rfl⟩)
            subst hjn
            have HPl : Hid (∀ W, Below wc.heap.size wc W → ∀ z, InI z → Calls Tryd.prog 13 #[.pointer (some ⟨lb, 0, none⟩), .int .i64 z] W fun e w' => e = .returned (.int .i64 (plc L z)) ∧ Below W.heap.size W w') := fun W hW z hz => place_any (HA6.out.below hW).ly (HA6.out.below hW).hn HO.out.1.len z hz
            have HSt : Hid (∀ W, Below wc.heap.size wc W → Calls Tryd.prog 12 #[.pointer (some ⟨b, 0, none⟩), .int .i64 (plc L ((jn : Int) + 1)), .int .i64 f, .int .i64 (plc L ot)] W fun e w' => e = .returned (.bool true) ∧ Touch [g] W w' ∧ ∃ ws', Ar w' b g c (tps c L) false ws' ∧ Hld c (tps c L) ws' (th3.set ti { T with ps := T.ps.set f (plc L ot) })) := fun W hW => by
              have hax := (HA6.out.below hW).rm.bq.ax
              have hin := plc_in HD3.out.1 hax ot
              have h := hax.setPtr ti T HT.out.1 f (plc L ot) (by rw [HT.out.2.2.2.2.2.2, List.length_map]; exact HT.out.2.2.2.1) hin.1 hin.2
              rw [HT.out.2.1]
              exact h
            have hRl : R < wc.heap.size := (Array.getElem?_eq_some_iff.1 Hdd6.out).1
            have HDc : Hid (∀ W, Below wc.heap.size wc W → W.cell? ⟨R, 0, none⟩ = some (.int .i64 ((jn : Int) + 1)) ∧ W.cell? ⟨R, 1, none⟩ = some (.int .i64 f) ∧ W.cell? ⟨R, 2, none⟩ = some (.int .i64 ot)) := fun W hW => ⟨(hW.cell (p := ⟨R, 0, none⟩) hRl).trans (cell_of_row _ _ 0 _ _ _ Hdd6.out), (hW.cell (p := ⟨R, 1, none⟩) hRl).trans (cell_of_row _ _ 1 _ _ _ Hdd6.out), (hW.cell (p := ⟨R, 2, none⟩) hRl).trans (cell_of_row _ _ 2 _ _ _ Hdd6.out)⟩
            have Hoa : Hid (InI ((jn : Int) + 1) ∧ InI ot) := ⟨HOi.out.1, HOi.out.2.2⟩
            clear hta hto hfl ho hTi hTn hMt hpa h1o h2o hpr hfn hno hTps hnf Hdo
            haveI hinh : Inhabited (Bel wc) := ⟨⟨wc, Below.refl _ _⟩⟩
            have x0 : ∀ p : Bel wc, p.v.cell? ⟨R, 0, none⟩ = some (.int .i64 ((jn : Int) + 1)) := fun p => (HDc.out p.v p.h).1
            have x1 : ∀ p : Bel wc, p.v.cell? ⟨R, 1, none⟩ = some (.int .i64 f) := fun p => (HDc.out p.v p.h).2.1
            have x2 : ∀ p : Bel wc, p.v.cell? ⟨R, 2, none⟩ = some (.int .i64 ot) := fun p => (HDc.out p.v p.h).2.2
            have HTa : Hid (∀ p : Bel wc, Calls Tryd.prog 13 #[.pointer (some ⟨lb, 0, none⟩), .int .i64 ((jn : Int) + 1)] p.v fun e w' => e = .returned (.int .i64 (plc L ((jn : Int) + 1))) ∧ Below p.v.heap.size p.v w') := fun p => HPl.out p.v p.h _ Hoa.out.1
            have HTt : Hid (∀ p : Bel wc, Calls Tryd.prog 13 #[.pointer (some ⟨lb, 0, none⟩), .int .i64 ot] p.v fun e w' => e = .returned (.int .i64 (plc L ot)) ∧ Below p.v.heap.size p.v w') := fun p => HPl.out p.v p.h _ Hoa.out.2
            clear HPl
            go_upto_region 23 with fail
            refine below_call 11 mixed (by kernel_rfl) ?_
            simp only [List.take_succ_cons, List.take_zero, List.drop_succ_cons, List.drop_zero]
            iterate 4 (go_big_quiet_step (fail))
            go_big_quiet_step (first | (go_at_call 13; exact calls_bel (HTa.out _)))
            iterate 5 (go_big_quiet_step (fail))
            go_big_quiet_step (first | (go_at_call 13; exact calls_bel (HTt.out _)))
            refine wpQuiet_nil ?_
            rintro w8 ⟨⟨w8, b8⟩, rfl⟩
            go_wp2_with fail
            refine (HSt.out w8 b8).mono ?_
            rintro e w9 ⟨rfl, t9, ws9, hA9, hH9⟩
            have hal8 := HA6.out.below b8
            have HA9 : Hid (Al w4 w4.heap.size w9 mm lb b (mb + 1) g mb (.slice none 0 0) c (tps c L) ws9 (th3.set ti { T with ps := T.ps.set f (plc L ot) }) [] 0 (fun a => decide (a ∈ ([] : List Int))) L (.slice fa N fcap) F3 n2) := hal8.touch (t9.wide (by simp)) (hal8.rm.next t9.one hA9 hH9)
            have HR9 : Hid (w9.heap[R]? = some (.cells #[.int .i64 ((jn : Int) + 1), .int .i64 f, .int .i64 ot] 53 (0, 0))) := (t9.block R (Nat.lt_of_lt_of_le hRl b8.size) (by
              obtain ⟨gs, hgs⟩ := hal8.rm.bq.ax.ar.rowTy.1
              simp only [List.mem_cons, List.not_mem_nil, or_false]
              exact heap_ty_ne ((b8.block R hRl).trans Hdd6.out) hgs (by decide))).trans ((b8.block R hRl).trans Hdd6.out)
            clear HA6 HSt HDc x0 x1 x2 HTa HTt Hdd6 hRl hinh t9 hA9 hH9 hal8 b8
            go_wp2_with fail
            refine thenQuiet_mk ?_
            repeat (go_big_quiet_step (fail))
            refine wpQuiet_nil ?_
            have bd := below_drewN (Below.refl w9.heap.size w9) 1
            have HA10 : Hid (Al w4 w4.heap.size w9.drew mm lb b (mb + 1) g mb (.slice none 0 0) c (tps c L) ws9 (th3.set ti { T with ps := T.ps.set f (plc L ot) }) [] 0 (fun a => decide (a ∈ ([] : List Int))) L (.slice fa N fcap) F3 n2) := HA9.out.below bd
            have hpm := List.mem_of_getElem? HT.out.2.2.1
            have hpcell := (HA10.out.fd.rows pr hpm).1
            obtain ⟨fq, fc, e1, hfq, xf⟩ := HA10.out.fd.at_ HT.out.2.2.1
            simp only [Value.slice.injEq] at e1
            obtain ⟨e1, -, -⟩ := e1
            subst e1
            have xf' : w9.drew.cell? ⟨fq, jn, none⟩ = some (.slice (some ⟨pr.1, 0, none⟩) nf nf) := by rw [xf]; unfold fval; rw [Hnf.out]
            have x0 : w9.cell? ⟨R, 0, none⟩ = some (.int .i64 ((jn : Int) + 1)) := cell_of_row _ _ 0 _ _ _ HR9.out
            have x1 : w9.cell? ⟨R, 1, none⟩ = some (.int .i64 f) := cell_of_row _ _ 1 _ _ _ HR9.out
            have x2 : w9.cell? ⟨R, 2, none⟩ = some (.int .i64 ot) := cell_of_row _ _ 2 _ _ _ HR9.out
            have xc : w9.drew.cell? ⟨pr.1, f, none⟩ = some (.int .i64 (pr.2[f]'HT.out.2.2.2.1)) := by
              rw [cell_of_row _ _ f _ _ _ hpcell]
              simp [ints, List.getElem?_eq_getElem HT.out.2.2.2.1]
            have xz : w9.drew.frozen? ⟨pr.1, f, none⟩ = false := by unfold World.frozen?; simp only [hpcell]; simp
            have hsr := setCell_eq_setRow w9.drew pr.1 f _ _ _ (.int .i64 ot) hpcell
            have hse : (ints pr.2).toArray.setIfInBounds f (.int .i64 ot) = (ints (pr.2.set f ot)).toArray := by simp [ints, List.map_set]
            rw [hse] at hsr
            have hrow : (w9.drew.setCell ⟨pr.1, f, none⟩ (.int .i64 ot)).heap[pr.1]? = some (.cells (ints (pr.2.set f ot)).toArray 3 (0, 0)) := by rw [hsr]; exact setRow_heap _ _ _ _ _ _ hpcell
            have HA11 : Hid (Al w4 w4.heap.size (w9.drew.setCell ⟨pr.1, f, none⟩ (.int .i64 ot)) mm lb b (mb + 1) g mb (.slice none 0 0) c (tps c L) ws9 (th3.set ti { T with ps := T.ps.set f (plc L ot) }) [] 0 (fun a => decide (a ∈ ([] : List Int))) L (.slice (some ⟨fq, 0, none⟩) N fcap) (F3.set jn (pr.1, pr.2.set f ot)) n2) := HA10.out.field HT.out.2.2.1 (pr.2.set f ot) (by rw [hsr]; exact ⟨rfl, rfl, rfl, by simp [World.setRow], fun q hq hne => setRow_other _ _ _ _ (by simpa using hne)⟩) hrow (by simp)
            have HD11 : Hid (Sk L (th3.set ti { T with ps := T.ps.set f (plc L ot) }) ∧ Ag L (th3.set ti { T with ps := T.ps.set f (plc L ot) }) ((F3.set jn (pr.1, pr.2.set f ot)).map (·.2)) ∧ (∀ V, V ∈ (th3.set ti { T with ps := T.ps.set f (plc L ot) }) → V.h = false) ∧ (F3.set jn (pr.1, pr.2.set f ot)).length = N) := by
              obtain ⟨q1, q2, q3⟩ := deed_step (f := f) HD3.out.1 HD3.out.2.1 HD3.out.2.2.1 HT.out.1 HT.out.2.2.1 HT.out.2.2.2.2.1 HT.out.2.2.2.2.2.2 Hoa.out.2
              exact ⟨q1, q2, q3, by rw [List.length_set]; exact HD3.out.2.2.2⟩
            clear HA9 HA10 xf hse hrow hpm hpcell hsr hfq bd
            go_upto_region 24 with fail
            refine quiet_tail 11 mixed (by kernel_rfl) ?_
            simp only [List.take_succ_cons, List.take_zero, List.drop_succ_cons, List.drop_zero]
            iterate 11 (go_big_quiet_step (fail))
            refine wpQuiet_nil ?_
            go_wp2_with fail
            go_roundw
            case rel => exact ⟨i + 1, by omega, by omega, by go_num, ws9, _, _, HA11, HD11⟩
            case measure => simp [intOf]; omega
        · obtain rfl : nb0 = false := by rw [Hnb0.out]; exact decide_eq_false hii
          clear Hnb0 hii
          obtain ⟨i0, hi0, hz0, hz1, hz2⟩ := info_parts Tryd.infoInt
          have HI : Hid (Tryd.prog.info? 3 = some i0 ∧ i0.zero = some (.int .i64 0) ∧ i0.size = 1 ∧ i0.bytes = 8) := ⟨hi0, hz0, hz1, hz2⟩
          clear hi0 hz0 hz1 hz2
          obtain ⟨wl, hwl⟩ : ∃ v, v = wr := ⟨_, rfl⟩
          subst hwl
          go_wp2_with fail
          go_loopw [11, 12, 16] (fun v11 v12 v16 wr => ∃ n : Nat, 1 ≤ n ∧ n ≤ N + 1 ∧ v16 = .int .i64 n ∧ ∃ (la : Int) (m : Nat), v12 = .int .i64 la ∧ 0 ≤ la ∧ la ≤ 262145 ∧ m ≤ 400 ∧ Hid (la = fstp L (nos th3 (q4T c false) n) ∧ m = (nos th3 (q4T c false) n).length) ∧ Hid (wr.ownsRow wl.heap.size 3 1 v11 m (ints (nos th3 (q4T c false) n))) ∧ Hid (Below wl.heap.size wl wr)) (fun _ _ v16 _ => N + 1 - (intOf v16).toNat)
          case atStart =>
            refine ⟨1, by omega, by omega, rfl, 0, 0, rfl, by omega, by omega, by omega, ⟨by rw [nos_start HD3.out.1]; rfl, by rw [nos_start HD3.out.1]; rfl⟩, ?_, Below.refl _ _⟩
            show World.ownsRow _ _ _ _ _ _ _
            rw [nos_start HD3.out.1]
            exact World.ownsRow_nil _ _ _ _
          case round =>
            obtain ⟨n, hn1, hn, rfl, la, m, rfl, hla0, hla1, hm, Hla, Hrow, Hbe⟩ := hrel
            obtain ⟨a6, n6, c6, rfl⟩ := row_slice Hrow.out
            have HAx : Hid (Al w4 w4.heap.size wr mm lb b (mb + 1) g mb (.slice none 0 0) c (tps c L) ws3 th3 [] 0 (fun a => decide (a ∈ ([] : List Int))) L (.slice fa N fcap) F3 n2) := HA3.out.below Hbe.out
            obtain ⟨ta, tcap, ta', tcap', x14, -⟩ := HAx.out.ly.lens
            rw [← HN.out.1] at x14
            by_cases hnl : n ≤ N
            · have hnI : (n : Int) ≤ (N : Int) := by omega
              have hth := there_any HAx.out.ly HO.out.1.len (n : Int) (by unfold InI; omega)
              cases hthr : thr L (n : Int)
              · rw [hthr] at hth
                have Hno : Hid (nos th3 (q4T c false) (n + 1) = nos th3 (q4T c false) n) := nos_none HD3.out.1 _ hthr
                clear hthr
                go_wp2_with fail
                refine hth.mono ?_
                rintro e w5 ⟨rfl, l5⟩
                have Hbe5 : Hid (Below wl.heap.size wl w5) := Hbe.out.trans (l5.mono Hbe.out.size)
                have Hrow5 : Hid (w5.ownsRow wl.heap.size 3 1 (.slice a6 n6 c6) m (ints (nos th3 (q4T c false) n))) := row_keep Hrow.out (fun y hy => l5.block y (row_lt Hrow.out y hy))
                clear hth l5 Hbe Hrow HAx x14
                go_wp2_with fail
                go_roundw
                case rel => exact ⟨n + 1, by omega, by omega, by go_num, la, m, rfl, hla0, hla1, hm, ⟨by rw [Hno.out]; exact Hla.out.1, by rw [Hno.out]; exact Hla.out.2⟩, by show World.ownsRow _ _ _ _ _ _ _; rw [Hno.out]; exact Hrow5.out, Hbe5⟩
                case measure => simp [intOf]; omega
              · rw [hthr] at hth
                obtain ⟨o, ho⟩ := thr_iff.1 hthr
                obtain ⟨ti, T, hTi, hTn, hMt⟩ := HD3.out.1.find ho
                obtain ⟨-, h2o, -, -⟩ := ob_some.1 ho
                have HT : Hid (T ∈ th3 ∧ T.no = n ∧ T.sp = o.sp ∧ plc L (n : Int) = T.at_ ∧ L[((n : Int) - 1).toNat]? = some o) := ⟨List.mem_of_getElem? hTi, by omega, hMt.sp, by rw [plc_some ho, hMt.at_], h2o⟩
                clear hthr ho hTi hTn hMt h2o
                go_wp2_with fail
                refine hth.mono ?_
                rintro e w5 ⟨rfl, l5⟩
                have Hbe5 : Hid (Below wl.heap.size wl w5) := Hbe.out.trans (l5.mono Hbe.out.size)
                have Hrow5 : Hid (w5.ownsRow wl.heap.size 3 1 (.slice a6 n6 c6) m (ints (nos th3 (q4T c false) n))) := row_keep Hrow.out (fun y hy => l5.block y (row_lt Hrow.out y hy))
                have HA5 : Hid (Al w4 w4.heap.size w5 mm lb b (mb + 1) g mb (.slice none 0 0) c (tps c L) ws3 th3 [] 0 (fun a => decide (a ∈ ([] : List Int))) L (.slice fa N fcap) F3 n2) := HAx.out.below l5
                clear hth l5 Hbe Hrow HAx x14
                obtain ⟨j, hj⟩ : ∃ j, n = j + 1 := ⟨n - 1, by omega⟩
                subst hj
                have hoj : L[j]? = some o := by
                  have h := HT.out.2.2.2.2
                  rw [show (((j + 1 : Nat) : Int) - 1).toNat = j from by omega] at h
                  exact h
                obtain ⟨tv, h14, tb, tbcap, rfl, hthings⟩ := HA5.out.ly.things
                rw [← HN.out.1] at h14
                obtain ⟨-, -, -, tq, toff, rfl, htq, hcs⟩ := hthings j o hoj
                have x0 : w5.cell? ⟨tq, toff + j * 11, none⟩ = some (.int .i64 o.sp) := hcs 0 (by decide)
                clear hthings hcs htq hoj
                by_cases hsp : o.sp = 4
                · rw [hsp] at x0
                  obtain ⟨pr, hpr⟩ : ∃ p, F3[j]? = some p := ⟨_, List.getElem?_eq_getElem (by have := HD3.out.2.2.2; omega)⟩
                  have hmp : pr.2 ∈ F3.map (·.2) := List.mem_map.2 ⟨pr, List.mem_of_getElem? hpr, rfl⟩
                  have hhy : hyT c false T = pr.2.any (ynl L false) := hy_fields HD3.out.1 HA5.out.rm.bq.ax HD3.out.2.1 HT.out.1 (by rw [HT.out.2.1, Nat.add_sub_cancel, List.getElem?_map, hpr]; rfl)
                  have hho := holds6_any HA5.out.mm_ HA5.out.ly HA5.out.hn HO.out.1.len HA5.out.rm.bq.ax.ar (fval pr) pr.2 (HA5.out.fd.lrd (List.mem_of_getElem? hpr)) (HD3.out.2.1.ini _ hmp) (by have := HD3.out.2.1.few _ hmp; omega)
                  rw [← hhy] at hho
                  obtain ⟨fq, fc, e1, hfq, xf⟩ := HA5.out.fd.at_ hpr
                  simp only [Value.slice.injEq] at e1
                  obtain ⟨e1, -, -⟩ := e1
                  subst e1
                  obtain ⟨nf, hnf⟩ : ∃ n, n = pr.2.length := ⟨_, rfl⟩
                  have efv : fval pr = .slice (some ⟨pr.1, 0, none⟩) nf nf := by rw [hnf]
                  rw [efv] at hho xf
                  have Hq : Hid (q4T c false T = hyT c false T) := by
                    show _ = _
                    unfold q4T
                    rw [show inS 4 T = true from decide_eq_true (HT.out.2.2.1.trans hsp), Bool.true_and]
                  clear hmp hhy hpr hfq efv hnf hsp
                  cases hq : hyT c false T
                  · rw [hq] at hho
                    have Hno : Hid (nos th3 (q4T c false) (j + 1 + 1) = nos th3 (q4T c false) (j + 1)) := nos_not HD3.out.1 _ HT.out.1 HT.out.2.1 (Hq.out.trans hq)
                    clear hq Hq
                    go_wp2_with fail
                    refine hho.mono ?_
                    rintro e w6 ⟨rfl, l6⟩
                    have Hbe6 : Hid (Below wl.heap.size wl w6) := Hbe5.out.trans (l6.mono Hbe5.out.size)
                    have Hrow6 : Hid (w6.ownsRow wl.heap.size 3 1 (.slice a6 n6 c6) m (ints (nos th3 (q4T c false) (j + 1)))) := row_keep Hrow5.out (fun y hy => l6.block y (row_lt Hrow5.out y hy))
                    clear hho l6 Hbe5 Hrow5 HA5 x0 xf h14
                    go_wp2_with fail
                    go_roundw
                    case rel => exact ⟨j + 1 + 1, by omega, by omega, by go_num, la, m, rfl, hla0, hla1, hm, ⟨by rw [Hno.out]; exact Hla.out.1, by rw [Hno.out]; exact Hla.out.2⟩, by show World.ownsRow _ _ _ _ _ _ _; rw [Hno.out]; exact Hrow6.out, Hbe6⟩
                    case measure => simp [intOf]; omega
                  · rw [hq] at hho
                    have Hyes : Hid (nos th3 (q4T c false) (j + 1 + 1) = nos th3 (q4T c false) (j + 1) ++ [((j + 1 : Nat) : Int)] ∧ fstp L (nos th3 (q4T c false) (j + 1 + 1)) = if fstp L (nos th3 (q4T c false) (j + 1)) = 0 then plc L ((j + 1 : Nat) : Int) else fstp L (nos th3 (q4T c false) (j + 1))) := fstp_yes HD3.out.1 HA5.out.rm.bq.ax HT.out.1 HT.out.2.1 (Hq.out.trans hq)
                    have Hm1 : Hid (m + 1 ≤ 400) := by
                      have h := nos_few HD3.out.1 (q4T c false) (j + 1 + 1)
                      rw [Hyes.out.1, List.length_append, ← Hla.out.2] at h
                      have := HO.out.1.len
                      simp at h
                      show m + 1 ≤ 400
                      omega
                    have Hp : Hid (1 ≤ plc L ((j + 1 : Nat) : Int) ∧ plc L ((j + 1 : Nat) : Int) ≤ 262145) := by
                      have h := HA5.out.rm.bq.ax.pos HT.out.1
                      rw [← HT.out.2.2.2.1] at h
                      show _ ∧ _
                      omega
                    clear hq Hq
                    go_wp2_with fail
                    refine hho.mono ?_
                    rintro e w6 ⟨rfl, l6⟩
                    have Hbe6 : Hid (Below wl.heap.size wl w6) := Hbe5.out.trans (l6.mono Hbe5.out.size)
                    have Hrow6 : Hid (w6.ownsRow wl.heap.size 3 1 (.slice a6 n6 c6) m (ints (nos th3 (q4T c false) (j + 1)))) := row_keep Hrow5.out (fun y hy => l6.block y (row_lt Hrow5.out y hy))
                    clear hho l6 Hbe5 Hrow5 HA5 x0 xf h14
                    by_cases hl0 : la = 0
                    · have Hl0 : Hid (la = 0) := hl0
                      have gl0 : (la == 0) = true := by simpa using hl0
                      clear hl0
                      go_wp2_with (at_builtin; refine wpList_append_own_at _ rfl _ _ 42 rfl wl.heap.size 3 i0 (.int .i64 0) 1 8 Tryd.underlying42 HI.out.1 HI.out.2.1 HI.out.2.2.1 HI.out.2.2.2 rfl (by decide) _ _ _ rfl (Hrow6.out.alloc _) ⟨w6.heap.size, 0, none⟩ 1 1 [.int .i64 ((j : Int) + 1)] rfl rfl (cell_one_new _ _ _) (by simp [Value.oneCell']) (by simp [maxLen]; omega) (by omega) (by have := Hbe6.out.size; simp; omega) ?_; intro v' w7 hown' hgrow _ hat)
                      have Hrow7 : Hid (w7.ownsRow wl.heap.size 3 1 v' (m + 1) (ints (nos th3 (q4T c false) (j + 1 + 1)))) := by
                        show w7.ownsRow wl.heap.size 3 1 v' (m + 1) (ints (nos th3 (q4T c false) (j + 1 + 1)))
                        rw [Hyes.out.1]
                        simpa [ints] using hown'
                      have Hbe7 : Hid (Below wl.heap.size wl w7) := (Hbe6.out.alloc Hbe6.out.size _).grown hgrow (by have := Hbe6.out.size; simp; omega) (fun y hy => by
                        rcases Hrow6.out.2 with ⟨e1, -⟩ | ⟨g, cap, cur, e1, e2, -⟩
                        · have hy' : (Value.slice a6 n6 c6).ownBlock = some y := hy
                          rw [e1] at hy'
                          simp [Value.ownBlock] at hy'
                        · have hy' : (Value.slice a6 n6 c6).ownBlock = some y := hy
                          rw [e1] at hy'
                          simp [Value.ownBlock] at hy'
                          omega)
                      obtain ⟨a7, n7, c7, hv7⟩ := row_slice hown'
                      subst hv7
                      clear hown' hgrow hat Hrow6 Hbe6
                      have HA7 : Hid (Al w4 w4.heap.size w7 mm lb b (mb + 1) g mb (.slice none 0 0) c (tps c L) ws3 th3 [] 0 (fun a => decide (a ∈ ([] : List Int))) L (.slice (some ⟨fq, 0, none⟩) N fcap) F3 n2) := HA3.out.below Hbe7.out
                      have hpl : Calls Tryd.prog 13 #[.pointer (some ⟨lb, 0, none⟩), .int .i64 ((j : Int) + 1)] w7 fun e w' => e = .returned (.int .i64 (plc L ((j + 1 : Nat) : Int))) ∧ Below w7.heap.size w7 w' := place_any HA7.out.ly HA7.out.hn HO.out.1.len ((j + 1 : Nat) : Int) (by unfold InI; omega)
                      have Hla8 : Hid (plc L ((j + 1 : Nat) : Int) = fstp L (nos th3 (q4T c false) (j + 1 + 1)) ∧ m + 1 = (nos th3 (q4T c false) (j + 1 + 1)).length) := ⟨by rw [Hyes.out.2, ← Hla.out.1, if_pos Hl0.out], by rw [Hyes.out.1, List.length_append, ← Hla.out.2]; rfl⟩
                      clear HA7
                      generalize plc L ((j + 1 : Nat) : Int) = pz at hpl Hla8 Hp
                      go_wp2_with fail
                      refine hpl.mono ?_
                      rintro e w8 ⟨rfl, l8⟩
                      have Hbe8 : Hid (Below wl.heap.size wl w8) := Hbe7.out.trans (l8.mono Hbe7.out.size)
                      have Hrow8 : Hid (w8.ownsRow wl.heap.size 3 1 (.slice a7 n7 c7) (m + 1) (ints (nos th3 (q4T c false) (j + 1 + 1)))) := row_keep Hrow7.out (fun y hy => l8.block y (row_lt Hrow7.out y hy))
                      clear hpl l8 Hbe7 Hrow7
                      go_wp2_with fail
                      go_roundw
                      case rel => exact ⟨j + 1 + 1, by omega, by omega, by go_num, pz, m + 1, rfl, by have := Hp.out.1; omega, Hp.out.2, Hm1.out, Hla8, Hrow8, Hbe8⟩
                      case measure => simp [intOf]; omega
                    · have hl0' : (la == 0) = false := by simpa using hl0
                      have Hl0 : Hid (¬ la = 0) := hl0
                      clear hl0
                      go_wp2_with (at_builtin; refine wpList_append_own_at _ rfl _ _ 42 rfl wl.heap.size 3 i0 (.int .i64 0) 1 8 Tryd.underlying42 HI.out.1 HI.out.2.1 HI.out.2.2.1 HI.out.2.2.2 rfl (by decide) _ _ _ rfl (Hrow6.out.alloc _) ⟨w6.heap.size, 0, none⟩ 1 1 [.int .i64 ((j : Int) + 1)] rfl rfl (cell_one_new _ _ _) (by simp [Value.oneCell']) (by simp [maxLen]; omega) (by omega) (by have := Hbe6.out.size; simp; omega) ?_; intro v' w7 hown' hgrow _ hat)
                      have Hrow7 : Hid (w7.ownsRow wl.heap.size 3 1 v' (m + 1) (ints (nos th3 (q4T c false) (j + 1 + 1)))) := by
                        show w7.ownsRow wl.heap.size 3 1 v' (m + 1) (ints (nos th3 (q4T c false) (j + 1 + 1)))
                        rw [Hyes.out.1]
                        simpa [ints] using hown'
                      have Hbe7 : Hid (Below wl.heap.size wl w7) := (Hbe6.out.alloc Hbe6.out.size _).grown hgrow (by have := Hbe6.out.size; simp; omega) (fun y hy => by
                        rcases Hrow6.out.2 with ⟨e1, -⟩ | ⟨g, cap, cur, e1, e2, -⟩
                        · have hy' : (Value.slice a6 n6 c6).ownBlock = some y := hy
                          rw [e1] at hy'
                          simp [Value.ownBlock] at hy'
                        · have hy' : (Value.slice a6 n6 c6).ownBlock = some y := hy
                          rw [e1] at hy'
                          simp [Value.ownBlock] at hy'
                          omega)
                      obtain ⟨a7, n7, c7, hv7⟩ := row_slice hown'
                      subst hv7
                      clear hown' hgrow hat Hrow6 Hbe6
                      have Hla8 : Hid (la = fstp L (nos th3 (q4T c false) (j + 1 + 1)) ∧ m + 1 = (nos th3 (q4T c false) (j + 1 + 1)).length) := ⟨by rw [Hyes.out.2, ← Hla.out.1, if_neg Hl0.out], by rw [Hyes.out.1, List.length_append, ← Hla.out.2]; rfl⟩
                      go_wp2_with fail
                      go_roundw
                      case rel => exact ⟨j + 1 + 1, by omega, by omega, by go_num, la, m + 1, rfl, hla0, hla1, Hm1.out, Hla8, Hrow7, Hbe7⟩
                      case measure => simp [intOf]; omega
                · have hsp' : (o.sp == 4) = false := by simpa using hsp
                  have Hno : Hid (nos th3 (q4T c false) (j + 1 + 1) = nos th3 (q4T c false) (j + 1)) := nos_not HD3.out.1 _ HT.out.1 HT.out.2.1 (by
                    unfold q4T
                    rw [show inS 4 T = false from decide_eq_false (fun h => hsp (HT.out.2.2.1.symm.trans h)), Bool.false_and])
                  clear hsp
                  go_wp2_with fail
                  go_roundw
                  case rel => exact ⟨j + 1 + 1, by omega, by omega, by go_num, la, m, rfl, hla0, hla1, hm, ⟨by rw [Hno.out]; exact Hla.out.1, by rw [Hno.out]; exact Hla.out.2⟩, by show World.ownsRow _ _ _ _ _ _ _; rw [Hno.out]; exact Hrow5.out, Hbe5⟩
                  case measure => simp [intOf]; omega
            · have hnI : ¬ (n : Int) ≤ (N : Int) := by omega
              have hne : n = N + 1 := by omega
              have hnw : nos th3 (q4T c false) n = wantN c false th3 := by rw [hne]; exact nos_end HD3.out.1 (Nat.le_of_eq HN.out.1.symm)
              obtain ⟨want, hwant⟩ : ∃ want, want = wantN c false th3 := ⟨_, rfl⟩
              rw [hnw, ← hwant] at Hla Hrow
              have Hlal : Hid (m = want.length) := Hla.out.2
              have hms := missing_any HAx.out.rm
              have hre : ∀ W, Below wr.heap.size wr W → Calls Tryd.prog 16 #[.pointer (some ⟨mb + 1, 0, none⟩)] W fun e w' => e = .returned (.tuple #[]) ∧ Touch [mb + 1, mb, b, g] W w' ∧ Rt w4 w4.heap.size w' mm lb b (mb + 1) g mb c (tps c L) L (.slice fa N fcap) F3 n2 want true := fun W hW => by
                rw [hwant]
                exact rt_rebuild (HAx.out.below hW) HD3.out.1 HD3.out.2.1 (fun T hT _ => HD3.out.2.2.1 T hT) HO.out.1.len
              have Hre : Hid (∀ W, Below wr.heap.size wr W → Calls Tryd.prog 16 #[.pointer (some ⟨mb + 1, 0, none⟩)] W fun e w' => e = .returned (.tuple #[]) ∧ Touch [mb + 1, mb, b, g] W w' ∧ Rt w4 w4.heap.size w' mm lb b (mb + 1) g mb c (tps c L) L (.slice fa N fcap) F3 n2 want true) := hre
              have Hax : Hid (Sk L th3 ∧ Ax wr b g c (tps c L) false ws3 th3 ∧ want = wantN c false th3) := ⟨HD3.out.1, HAx.out.rm.bq.ax, hwant⟩
              have Hmi : Hid (∀ W' W (v : Value), Touch [mb + 1, mb, b, g] W W' → Below wr.heap.size wr W → W.ownsRow wl.heap.size 3 1 v m (ints want) → W'.ownsRow wl.heap.size 3 1 v m (ints want)) := fun W' W v t hW h => (HAx.out.below hW).mine t h
              clear hre hnw hne hwant HAx Hbe
              go_wp2_with fail
              refine hms.mono ?_
              rintro e w5 ⟨r, d, rfl, hd, l5⟩
              obtain ⟨hr, hd2⟩ := missing_last Hax.out.1 Hax.out.2.1 hd
              have hrl : r = la := by rw [hr, Hla.out.1, ← Hax.out.2.2]
              subst hrl
              have Hrow5 : Hid (w5.ownsRow wl.heap.size 3 1 (.slice a6 n6 c6) m (ints want)) := row_keep Hrow.out (fun y hy => l5.block y (row_lt Hrow.out y hy))
              have hre := Hre.out w5 l5
              have Hl5 : Hid (Below wr.heap.size wr w5) := l5
              clear hms hd hr Hla Hrow Hax Hre x14 l5
              go_upto_region 35 with fail
              go_cut [192] from 184 to 191 (fun v192 wc => v192 = .bool false ∧ w5 = wc)
              case first =>
                by_cases hp : 0 < r
                · obtain rfl : d = true := by rw [hd2]; exact decide_eq_true hp
                  clear hd2
                  go_wp2_with fail
                  go_meet
                  exact ⟨rfl, rfl⟩
                · obtain rfl : d = false := by rw [hd2]; exact decide_eq_false hp
                  clear hd2
                  go_wp2_with fail
                  go_meet
                  exact ⟨rfl, rfl⟩
              case rest =>
              obtain ⟨rfl, rfl⟩ := hcut
              clear hd2
              apply_assumption
              go_wp2_with fail
              refine hre.mono ?_
              rintro e w6 ⟨rfl, t6, hrt6⟩
              have Hrt6 : Hid (Rt w4 w4.heap.size w6 mm lb b (mb + 1) g mb c (tps c L) L (.slice fa N fcap) F3 n2 want true) := hrt6
              have Hrow6 : Hid (w6.ownsRow wl.heap.size 3 1 (.slice a6 n6 c6) m (ints want)) := Hmi.out w6 w5 _ t6 Hl5.out Hrow5.out
              have hms := hrt6.missing
              clear hre t6 hrt6 Hrow5 Hl5 Hmi
              go_wp2_with fail
              refine hms.mono ?_
              rintro e w7 ⟨r7, rfl, l7⟩
              have Hrt7 : Hid (Rt w4 w4.heap.size w7 mm lb b (mb + 1) g mb c (tps c L) L (.slice fa N fcap) F3 n2 want true) := Hrt6.out.below l7
              have Hrow7 : Hid (w7.ownsRow wl.heap.size 3 1 (.slice a6 n6 c6) m (ints want)) := row_keep Hrow6.out (fun y hy => l7.block y (row_lt Hrow6.out y hy))
              have hri := Hrt7.out.right HO.out.1 (Lrd.own Hrow7.out Hlal.out)
              clear hms Hrt6 Hrow6 l7
              go_wp2_with fail
              refine hri.mono ?_
              rintro e w8 ⟨rfl, l8⟩
              have Hrt8 : Hid (Rt w4 w4.heap.size w8 mm lb b (mb + 1) g mb c (tps c L) L (.slice fa N fcap) F3 n2 want true) := Hrt7.out.below l8
              have Hrow8 : Hid (w8.ownsRow wl.heap.size 3 1 (.slice a6 n6 c6) m (ints want)) := row_keep Hrow7.out (fun y hy => l8.block y (row_lt Hrow7.out y hy))
              have hre := Hrt8.out.again HO.out.1.len
              clear hri Hrt7 Hrow7 l8
              go_wp2_with fail
              refine hre.mono ?_
              rintro e w9 ⟨rfl, t9, hrt9⟩
              have Hrt9 : Hid (Rt w4 w4.heap.size w9 mm lb b (mb + 1) g mb c (tps c L) L (.slice fa N fcap) F3 n2 want true) := hrt9
              have Hrow9 : Hid (w9.ownsRow wl.heap.size 3 1 (.slice a6 n6 c6) m (ints want)) := Hrt8.out.mine t9 Hrow8.out
              have hri := hrt9.right HO.out.1 (Lrd.own Hrow9.out Hlal.out)
              clear hre t9 hrt9 Hrt8 Hrow8
              go_wp2_with fail
              refine hri.mono ?_
              rintro e w10 ⟨rfl, l10⟩
              have Hrt10 : Hid (Rt w4 w4.heap.size w10 mm lb b (mb + 1) g mb c (tps c L) L (.slice fa N fcap) F3 n2 want true) := Hrt9.out.below l10
              have Hrow10 : Hid (w10.ownsRow wl.heap.size 3 1 (.slice a6 n6 c6) m (ints want)) := row_keep Hrow9.out (fun y hy => l10.block y (row_lt Hrow9.out y hy))
              have hpr := Hrt10.out.prune HO.out.1.len
              clear hri Hrt9 Hrow9 l10
              go_wp2_with fail
              refine hpr.mono ?_
              rintro e w11 ⟨rfl, t11, be11, hri⟩
              have Hrow11 : Hid (w11.ownsRow wl.heap.size 3 1 (.slice a6 n6 c6) m (ints want)) := Hrt10.out.mine t11 Hrow10.out
              have hri := hri _ (Lrd.own Hrow11.out Hlal.out) HO.out.1
              have HB11 : Hid (Below w.heap.size w w11) := HB4.out.trans (be11.mono HB4.out.size)
              clear hpr t11 be11 Hrt10 Hrow10
              go_wp2_with fail
              refine hri.mono ?_
              rintro e w12 ⟨rfl, l12⟩
              have HB12 : Hid (Below w.heap.size w w12) := HB11.out.trans (l12.mono HB11.out.size)
              clear hri l12
              go_wp2_with fail
              go_ret
              exact ⟨rfl, HB12.out⟩

end Go.Proofs.YtfihjmoaibmllaaDoor
