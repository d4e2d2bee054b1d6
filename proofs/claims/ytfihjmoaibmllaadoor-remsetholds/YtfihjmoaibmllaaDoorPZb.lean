import Derived.Test.YtfihjmoaibmllaaDoorPZa
import Derived.Test.YtfihjmoaibmllaaDoorY27
import Derived.Test.YtfihjmoaibmllaaDoorPYd
/-
  prunes: all tenured things are named, by their numbers downward.
-/
set_option linter.unusedVariables false
set_option maxRecDepth 20000
namespace Go.Proofs.YtfihjmoaibmllaaDoor
open Go.RowKit Go.Shelf

/-- There, and tenured. -/
def t4 (L : List LT) (z : Int) : Bool := (ob L z).any (fun o => decide (o.sp = 4))

/-- The tenured ones of the last d numbers, downward. -/
def dsn (L : List LT) (N : Nat) : Nat → List Int
  | 0 => []
  | d + 1 => dsn L N d ++ (if t4 L ((N - d : Nat) : Int) = true then [((N - d : Nat) : Int)] else [])

/-- What is named, what comes out, above k. -/
def moreN (L : List LT) (N k : Nat) : List Int := (dsn L N (N - k)).map (plc L)
def outN (q : Int → Bool) (o : List Int) (L : List LT) (N k : Nat) : List Int := o ++ (dsn L N (N - k)).filter (fun z => q z && !decide (z ∈ o))

theorem dsn_step (L : List LT) {N j : Nat} (h : j + 1 ≤ N) : dsn L N (N - j) = dsn L N (N - (j + 1)) ++ (if t4 L ((j : Int) + 1) = true then [(j : Int) + 1] else []) := by
  have e : N - j = (N - (j + 1)) + 1 := by omega
  have e2 : ((N - (N - (j + 1)) : Nat) : Int) = (j : Int) + 1 := by omega
  rw [e, dsn, e2]

theorem dsn_mem (L : List LT) (N : Nat) : ∀ d, d ≤ N → ∀ z, z ∈ dsn L N d → ((N - d : Nat) : Int) < z ∧ z ≤ N ∧ t4 L z = true
  | 0, _, z, hz => by simp [dsn] at hz
  | d + 1, h, z, hz => by
    rw [dsn, List.mem_append] at hz
    rcases hz with hz | hz
    · have := dsn_mem L N d (by omega) z hz
      exact ⟨by omega, this.2⟩
    · by_cases ht : t4 L ((N - d : Nat) : Int) = true
      · rw [if_pos ht] at hz
        simp only [List.mem_cons, List.not_mem_nil, or_false] at hz
        subst hz
        exact ⟨by omega, by omega, ht⟩
      · rw [if_neg ht] at hz
        simp at hz

theorem dsn_len (L : List LT) (N : Nat) : ∀ d, (dsn L N d).length ≤ d
  | 0 => Nat.le_refl _
  | d + 1 => by
    have := dsn_len L N d
    rw [dsn, List.length_append]
    split
    · simp; omega
    · simp; omega

section
variable {L : List LT} {N j : Nat} {q : Int → Bool} {o : List Int}

theorem step_no (h : j + 1 ≤ N) (ht : t4 L ((j : Int) + 1) = false) : moreN L N j = moreN L N (j + 1) ∧ outN q o L N j = outN q o L N (j + 1) := by
  unfold moreN outN
  rw [dsn_step L h, ht]
  simp

theorem step_more (h : j + 1 ≤ N) (ht : t4 L ((j : Int) + 1) = true) : moreN L N j = moreN L N (j + 1) ++ [plc L ((j : Int) + 1)] := by
  unfold moreN
  rw [dsn_step L h, ht]
  simp

theorem step_out (h : j + 1 ≤ N) (ht : t4 L ((j : Int) + 1) = true) : outN q o L N j = if (q ((j : Int) + 1) && !decide ((j : Int) + 1 ∈ o)) = true then outN q o L N (j + 1) ++ [(j : Int) + 1] else outN q o L N (j + 1) := by
  unfold outN
  rw [dsn_step L h, ht, if_pos rfl, List.filter_append]
  by_cases hb : (q ((j : Int) + 1) && !decide ((j : Int) + 1 ∈ o)) = true
  · rw [if_pos hb, List.filter_cons_of_pos (by simpa using hb), List.filter_nil, List.append_assoc]
  · rw [if_neg hb, List.filter_cons_of_neg (by simpa using hb), List.filter_nil, List.append_nil]

theorem out_mem (h : j + 1 ≤ N) : ((j : Int) + 1 ∈ outN q o L N (j + 1)) ↔ (j : Int) + 1 ∈ o := by
  unfold outN
  rw [List.mem_append]
  constructor
  · rintro (h1 | h1)
    · exact h1
    · have := (dsn_mem L N _ (by omega) _ (List.mem_filter.1 h1).1).1
      omega
  · exact .inl

theorem more_len (k : Nat) : (moreN L N k).length ≤ N - k := by unfold moreN; rw [List.length_map]; exact dsn_len L N _
theorem out_len (k : Nat) : (outN q o L N k).length ≤ o.length + (N - k) := by
  unfold outN
  rw [List.length_append]
  have h1 := List.length_filter_le (fun z => q z && !decide (z ∈ o)) (dsn L N (N - k))
  have h2 := dsn_len L N (N - k)
  omega
theorem more_top : moreN L N N = [] := by unfold moreN; rw [Nat.sub_self]; rfl
theorem out_top : outN q o L N N = o := by unfold outN; rw [Nat.sub_self]; simp [dsn]
end

/-- Of two lists of one's own one grows. -/
theorem other_grown {w6 w7 : World} {ob_ : Obj} {base m : Nat} {v u : Value} {xs : List Value} (hg : (w6.alloc ob_).grownBy w7 v.ownBlock) (h : w6.ownsRow base 3 1 u m xs) (hd : ∀ y, v.ownBlock = some y → u.ownBlock ≠ some y) : w7.ownsRow base 3 1 u m xs := by
  refine row_keep h (fun y hy => ?_)
  have hlt := row_lt h y hy
  rw [hg.block y (by simp; omega) (fun e => hd y e.symm hy)]
  exact Below.heap_alloc _ _ _ hlt

theorem other_new {w6 : World} {ob_ : Obj} {base m : Nat} {v v' u : Value} {xs : List Value} (hat : v'.ownBlock = v.ownBlock ∨ v'.ownBlock = some (w6.alloc ob_).heap.size) (h : w6.ownsRow base 3 1 u m xs) (hd : ∀ y, v.ownBlock = some y → u.ownBlock ≠ some y) : ∀ y, v'.ownBlock = some y → u.ownBlock ≠ some y := fun y hy e => by
  rcases hat with h1 | h1
  · exact hd y (h1.symm.trans hy) e
  · have hlt := row_lt h y e
    rw [h1] at hy
    simp at hy
    omega

theorem mine_grown {w w6 w7 : World} {ob_ : Obj} {m : Nat} {v : Value} {xs : List Value} (hb : Below w.heap.size w w6) (hg : (w6.alloc ob_).grownBy w7 v.ownBlock) (h : w6.ownsRow w.heap.size 3 1 v m xs) : Below w.heap.size w w7 :=
  (hb.alloc hb.size _).grown hg (by have := hb.size; simp; omega) (fun y hy => by
    rcases h.2 with ⟨e1, -⟩ | ⟨g, cap, cur, e1, e2, -⟩
    · rw [e1] at hy
      simp [Value.ownBlock] at hy
    · rw [e1] at hy
      simp [Value.ownBlock] at hy
      omega)

end Go.Proofs.YtfihjmoaibmllaaDoor

/-
  prunes: its walk.
-/
set_option linter.unusedVariables false
set_option maxRecDepth 20000
namespace Go.Proofs.YtfihjmoaibmllaaDoor
open Go.RowKit Go.Shelf

theorem t4_some {L : List LT} {z : Int} {o : LT} (h : ob L z = some o) : t4 L z = decide (o.sp = 4) := by unfold t4; rw [h]; rfl
theorem t4_none {L : List LT} {z : Int} (h : thr L z = false) : t4 L z = false := by
  cases e : ob L z with
  | none => unfold t4; rw [e]; rfl
  | some o =>
    rw [thr_iff.2 ⟨o, e⟩] at h
    simp at h

section
variable {w1 w : World} {n1 mm lb b sb g mb n n2 : Nat} {lv lsv fv : Value} {c : Cfg} {x : Tps} {sw : Bool} {ws : Nat → Int} {th : List Tng} {l ls : List Int} {S : Int → Bool} {L : List LT} {Fr : List (Nat × List Int)}

set_option maxHeartbeats 8000000 in
theorem prunes_any (H : Au w1 n1 w mm lb b sb g mb lv c x sw ws th l n S L fv Fr n2) (ok : LOk c L) (sk : Sk L th) (hFl : Fr.length = L.length) (ini : ∀ p, p ∈ Fr → (∀ z, z ∈ p.2 → InI z) ∧ p.2.length ≤ 60) (hv : Lrd w.heap.size w lsv .i64 ls) (hin : ∀ z, z ∈ ls → 1 ≤ z ∧ z ≤ L.length) (hll : ls.length ≤ 400) (hlt : ∀ a, a ∈ l → ∃ T, T ∈ th ∧ T.at_ = a) (hl : l.length ≤ 400) (hn : n ≤ 50000) :
    Calls Tryd.prog 24 #[.pointer (some ⟨mm, 0, none⟩), lsv, fv] w fun e w' => ∃ v', e = .returned v' ∧ Touch [sb, mb, b, g] w w' ∧ w'.ownsRow w.heap.size 3 1 v' (outN (hN L sw Fr) (ls.filter (hN L sw Fr)) L L.length 0).length (ints (outN (hN L sw Fr) (ls.filter (hN L sw Fr)) L L.length 0)) ∧ ∃ lv' ws' n', (∀ q, lv'.ownBlock = some q → w.heap.size ≤ q ∧ v'.ownBlock ≠ some q) ∧ Rm w1 n1 w' sb b g mb lv' c x sw ws' (mk_ (inS' (hta c sw th) S (ded (l ++ moreN L L.length 0))) (ded (l ++ moreN L L.length 0)) th) ((ded (l ++ moreN L L.length 0)).filter (hta c sw th)) n' (inS' (hta c sw th) S (ded (l ++ moreN L L.length 0))) ∧ n' ≤ n + 20000 := by
  have hpr := pruned_any H.mm_ H.ly H.hn ok.len H.rm.bq.ax.ar hv hin (by omega) H.fd hFl ini
  obtain ⟨i0, hi0, hz0, hz1, hz2⟩ := info_parts Tryd.infoInt
  have HI : Hid (Tryd.prog.info? 3 = some i0 ∧ i0.zero = some (.int .i64 0) ∧ i0.size = 1 ∧ i0.bytes = 8) := ⟨hi0, hz0, hz1, hz2⟩
  obtain ⟨q, hq⟩ : ∃ q, q = hN L sw Fr := ⟨_, rfl⟩
  rw [← hq] at hpr ⊢
  obtain ⟨o, ho⟩ : ∃ o, o = ls.filter q := ⟨_, rfl⟩
  rw [← ho] at hpr ⊢
  have hol : o.length ≤ 400 := by
    have := List.length_filter_le q ls
    rw [ho]
    omega
  obtain ⟨N, hN'⟩ : ∃ N, N = L.length := ⟨_, rfl⟩
  rw [← hN'] at hFl ⊢
  have hNb : N ≤ 400 := by rw [hN']; exact ok.len
  obtain ⟨a1, cap1, rfl, -, -⟩ := hv
  obtain ⟨fa, fcap, hfv⟩ := own_sl H.fd.row
  rw [hFl] at hfv
  subst hfv
  have HA : Hid (Au w1 n1 w mm lb b sb g mb lv c x sw ws th l n S L (.slice fa N fcap) Fr n2) := H
  have HO : Hid (LOk c L ∧ Sk L th ∧ Fr.length = N ∧ (∀ p, p ∈ Fr → (∀ z, z ∈ p.2 → InI z) ∧ p.2.length ≤ 60) ∧ (∀ a, a ∈ l → ∃ T, T ∈ th ∧ T.at_ = a) ∧ l.length ≤ 400 ∧ N = L.length ∧ q = hN L sw Fr) := ⟨ok, sk, hFl, ini, hlt, hl, hN', hq⟩
  have hmlt := H.mm_.lt
  have Hmc : Hid (∀ W, Below w.heap.size w W → W.cell? ⟨mm, 0, none⟩ = some (.pointer (some ⟨lb, 0, none⟩)) ∧ W.cell? ⟨mm, 2, none⟩ = some (.pointer (some ⟨sb, 0, none⟩))) := fun W hW => ⟨(H.mm_.below hW).cell 0, (H.mm_.below hW).cell 2⟩
  clear H ok sk hFl ini hin hll hlt hl hi0 hz0 hz1 hz2 hq ho hN' hmlt
  go_enter Tryd.func24, Tryd.ntmps24
  go_wp2_with fail
  refine hpr.mono ?_
  rintro e w2 ⟨v2, rfl, hrow2, l2⟩
  obtain ⟨a2, m2, c2, rfl⟩ := row_slice hrow2
  have Hrow2 : Hid (w2.ownsRow w.heap.size 3 1 (.slice a2 m2 c2) o.length (ints o)) := hrow2
  have Hb2 : Hid (Below w.heap.size w w2) := l2
  obtain ⟨x0, -⟩ := Hmc.out w2 l2
  obtain ⟨ta, tcap, ta', tcap', x14, -⟩ := (HA.out.below l2).ly.lens
  rw [← HO.out.2.2.2.2.2.2.1] at x14
  clear hpr hrow2 l2
  go_wp2_with fail
  clear x0 x14
  go_loopw [7, 8, 9] (fun v7 v8 v9 wr => ∃ k m7 m8 : Nat, k ≤ N ∧ m7 ≤ 400 ∧ m8 ≤ 800 ∧ v9 = .int .i64 k ∧ Hid (m7 = (moreN L N k).length ∧ m8 = (outN q o L N k).length) ∧ Hid (wr.ownsRow w.heap.size 3 1 v7 m7 (ints (moreN L N k))) ∧ Hid (wr.ownsRow w.heap.size 3 1 v8 m8 (ints (outN q o L N k))) ∧ Hid (∀ y, v7.ownBlock = some y → v8.ownBlock ≠ some y) ∧ Hid (Below w.heap.size w wr)) (fun _ _ v9 _ => (intOf v9).toNat)
  case atStart =>
    refine ⟨N, 0, o.length, Nat.le_refl _, by omega, by omega, rfl, ⟨by rw [more_top]; rfl, by rw [out_top]⟩, ?_, ?_, (fun y hy => by simp [Value.ownBlock] at hy : ∀ y, (Value.slice none 0 0).ownBlock = some y → (Value.slice a2 m2 c2).ownBlock ≠ some y), Hb2⟩
    · show World.ownsRow _ _ _ _ _ _ _
      rw [more_top]
      exact World.ownsRow_nil _ _ _ _
    · show World.ownsRow _ _ _ _ _ _ _
      rw [out_top]
      exact Hrow2.out
  case round =>
    obtain ⟨k, m7, m8, hk, h7, h8, rfl, Hm, Hr7, Hr8, Hdj, Hbe⟩ := hrel
    clear Hb2 Hrow2
    obtain ⟨a7, n7, c7, rfl⟩ := row_slice Hr7.out
    obtain ⟨a8, n8, c8, rfl⟩ := row_slice Hr8.out
    obtain ⟨x0, x2⟩ := Hmc.out wr Hbe.out
    by_cases hk1 : 1 ≤ k
    · have hkI : (1 : Int) ≤ (k : Int) := by omega
      have hly := (HA.out.below Hbe.out).ly
      have hth := there_any hly HO.out.1.len (k : Int) (by unfold InI; omega)
      clear hly
      cases hthr : thr L (k : Int)
      · rw [hthr] at hth
        have Ht : Hid (t4 L (k : Int) = false) := t4_none hthr
        clear hthr
        go_wp2_with fail
        refine hth.mono ?_
        rintro e w5 ⟨rfl, l5⟩
        have Hb5 : Hid (Below w.heap.size w w5) := Hbe.out.trans (l5.mono Hbe.out.size)
        have Hr75 : Hid (w5.ownsRow w.heap.size 3 1 (.slice a7 n7 c7) m7 (ints (moreN L N k))) := row_keep Hr7.out (fun y hy => l5.block y (row_lt Hr7.out y hy))
        have Hr85 : Hid (w5.ownsRow w.heap.size 3 1 (.slice a8 n8 c8) m8 (ints (outN q o L N k))) := row_keep Hr8.out (fun y hy => l5.block y (row_lt Hr8.out y hy))
        clear hth l5 Hbe Hr7 Hr8 x0 x2
        obtain ⟨j, hj⟩ : ∃ j, k = j + 1 := ⟨k - 1, by omega⟩
        subst hj
        have Hst : Hid (moreN L N j = moreN L N (j + 1) ∧ outN q o L N j = outN q o L N (j + 1)) := step_no hk Ht.out
        go_wp2_with fail
        go_roundw
        case rel => exact ⟨j, m7, m8, by omega, h7, h8, by go_num, ⟨by rw [Hst.out.1]; exact Hm.out.1, by rw [Hst.out.2]; exact Hm.out.2⟩, by rw [Hst.out.1]; exact Hr75, by rw [Hst.out.2]; exact Hr85, Hdj, Hb5⟩
        case measure => simp [intOf]
      · rw [hthr] at hth
        obtain ⟨oo, hoo⟩ := thr_iff.1 hthr
        obtain ⟨-, h2o, -, -⟩ := ob_some.1 hoo
        have Ht : Hid (t4 L (k : Int) = decide (oo.sp = 4) ∧ L[((k : Int) - 1).toNat]? = some oo) := ⟨t4_some hoo, h2o⟩
        clear hthr hoo h2o
        go_wp2_with fail
        refine hth.mono ?_
        rintro e w5 ⟨rfl, l5⟩
        have Hb5 : Hid (Below w.heap.size w w5) := Hbe.out.trans (l5.mono Hbe.out.size)
        have Hr75 : Hid (w5.ownsRow w.heap.size 3 1 (.slice a7 n7 c7) m7 (ints (moreN L N k))) := row_keep Hr7.out (fun y hy => l5.block y (row_lt Hr7.out y hy))
        have Hr85 : Hid (w5.ownsRow w.heap.size 3 1 (.slice a8 n8 c8) m8 (ints (outN q o L N k))) := row_keep Hr8.out (fun y hy => l5.block y (row_lt Hr8.out y hy))
        clear hth l5 Hbe Hr7 Hr8 x0 x2
        obtain ⟨x0, x2⟩ := Hmc.out w5 Hb5.out
        obtain ⟨j, hj⟩ : ∃ j, k = j + 1 := ⟨k - 1, by omega⟩
        subst hj
        have hoj : L[j]? = some oo := by
          have h := Ht.out.2
          rw [show (((j + 1 : Nat) : Int) - 1).toNat = j from by omega] at h
          exact h
        obtain ⟨tv, h14, tb, tbcap, rfl, hthings⟩ := (HA.out.below Hb5.out).ly.things
        rw [← HO.out.2.2.2.2.2.2.1] at h14
        obtain ⟨-, -, -, tq, toff, rfl, htq, hcs⟩ := hthings j oo hoj
        have y0 : w5.cell? ⟨tq, toff + j * 11, none⟩ = some (.int .i64 oo.sp) := hcs 0 (by decide)
        clear hthings hcs htq hoj
        by_cases hsp : oo.sp = 4
        · rw [hsp] at y0
          have Ht4 : Hid (t4 L ((j : Int) + 1) = true) := Ht.out.1.trans (decide_eq_true hsp)
          obtain ⟨pr, hpr⟩ : ∃ p, Fr[j]? = some p := ⟨_, List.getElem?_eq_getElem (by have := HO.out.2.2.1; omega)⟩
          have hpm := List.mem_of_getElem? hpr
          obtain ⟨fq, fc, e1, hfq, xf⟩ := HA.out.fd.at_ hpr
          simp only [Value.slice.injEq] at e1
          obtain ⟨e1, -, -⟩ := e1
          subst e1
          obtain ⟨nf, hnf⟩ : ∃ n, n = pr.2.length := ⟨_, rfl⟩
          have efv : fval pr = .slice (some ⟨pr.1, 0, none⟩) nf nf := by rw [hnf]
          rw [efv] at xf
          have Hxf : Hid (∀ W, Below w.heap.size w W → W.cell? ⟨fq, j, none⟩ = some (.slice (some ⟨pr.1, 0, none⟩) nf nf)) := fun W hW => (hW.cell (p := ⟨fq, j, none⟩) hfq).trans xf
          have Hho : Hid (∀ W, Below w.heap.size w W → Calls Tryd.prog 14 #[.pointer (some ⟨mm, 0, none⟩), .slice (some ⟨pr.1, 0, none⟩) nf nf] W fun e w' => e = .returned (.bool (q ((j : Int) + 1))) ∧ Below W.heap.size W w') := fun W hW => by
            have hA := HA.out.below hW
            have h := holds6_any hA.mm_ hA.ly hA.hn HO.out.1.len hA.rm.bq.ax.ar (fval pr) pr.2 (hA.fd.lrd hpm) (HO.out.2.2.2.1 pr hpm).1 (by have := (HO.out.2.2.2.1 pr hpm).2; omega)
            rw [← hN_at (L := L) (sw := sw) hpr, ← HO.out.2.2.2.2.2.2.2, efv] at h
            exact h
          have hpl : Calls Tryd.prog 13 #[.pointer (some ⟨lb, 0, none⟩), .int .i64 ((j : Int) + 1)] w5 fun e w' => e = .returned (.int .i64 (plc L ((j : Int) + 1))) ∧ Below w5.heap.size w5 w' := by
            have hA := HA.out.below Hb5.out
            exact place_any hA.ly hA.hn HO.out.1.len ((j : Int) + 1) (by unfold InI; omega)
          obtain ⟨pz, hpz⟩ : ∃ p, p = plc L ((j : Int) + 1) := ⟨_, rfl⟩
          rw [← hpz] at hpl
          have Hmo : Hid (moreN L N j = moreN L N (j + 1) ++ [pz]) := by show _ = _; rw [hpz]; exact step_more hk Ht4.out
          have Hou : Hid (outN q o L N j = if (q ((j : Int) + 1) && !decide ((j : Int) + 1 ∈ o)) = true then outN q o L N (j + 1) ++ [(j : Int) + 1] else outN q o L N (j + 1)) := step_out hk Ht4.out
          have Hmj : Hid ((moreN L N j).length ≤ 400 ∧ (outN q o L N j).length ≤ 800) := ⟨by have := more_len (L := L) (N := N) j; omega, by have := out_len (L := L) (N := N) (q := q) (o := o) j; omega⟩
          have hm71 : m7 + 1 ≤ 400 := by
            have := Hmj.out.1
            rw [Hmo.out, List.length_append, ← Hm.out.1] at this
            simpa using this
          clear hpr hpm hfq xf hnf efv hpz hsp
          go_wp2_with fail
          refine hpl.mono ?_
          rintro e w6 ⟨rfl, l6⟩
          have Hb6 : Hid (Below w.heap.size w w6) := Hb5.out.trans (l6.mono Hb5.out.size)
          have Hr76 : Hid (w6.ownsRow w.heap.size 3 1 (.slice a7 n7 c7) m7 (ints (moreN L N (j + 1)))) := row_keep Hr75.out (fun y hy => l6.block y (row_lt Hr75.out y hy))
          have Hr86 : Hid (w6.ownsRow w.heap.size 3 1 (.slice a8 n8 c8) m8 (ints (outN q o L N (j + 1)))) := row_keep Hr85.out (fun y hy => l6.block y (row_lt Hr85.out y hy))
          clear hpl l6 Hb5 Hr75 Hr85 x0 x2 h14 y0
          go_wp2_with (at_builtin; refine wpList_append_own_at _ rfl _ _ 42 rfl w.heap.size 3 i0 (.int .i64 0) 1 8 Tryd.underlying42 HI.out.1 HI.out.2.1 HI.out.2.2.1 HI.out.2.2.2 rfl (by decide) _ _ _ rfl (Hr76.out.alloc _) ⟨w6.heap.size, 0, none⟩ 1 1 [.int .i64 pz] rfl rfl (cell_one_new _ _ _) (by simp [Value.oneCell']) (by simp [maxLen]; omega) (by omega) (by have := Hb6.out.size; simp; omega) ?_; intro v' w7 hown' hgrow _ hat; have hb7 := mine_grown Hb6.out hgrow Hr76.out; have xf7 := Hxf.out w7 hb7; obtain ⟨a9, n9, c9, hv9⟩ := row_slice hown'; subst hv9)
          have Hb7 : Hid (Below w.heap.size w w7) := hb7
          have Hr77 : Hid (w7.ownsRow w.heap.size 3 1 (.slice a9 n9 c9) (m7 + 1) (ints (moreN L N j))) := by
            show w7.ownsRow w.heap.size 3 1 (.slice a9 n9 c9) (m7 + 1) (ints (moreN L N j))
            rw [Hmo.out]
            simpa [ints] using hown'
          have Hr87 : Hid (w7.ownsRow w.heap.size 3 1 (.slice a8 n8 c8) m8 (ints (outN q o L N (j + 1)))) := other_grown hgrow Hr86.out Hdj.out
          have Hdj7 : Hid (∀ y, (Value.slice a9 n9 c9).ownBlock = some y → (Value.slice a8 n8 c8).ownBlock ≠ some y) := other_new hat Hr86.out Hdj.out
          have Hm7 : Hid (m7 + 1 = (moreN L N j).length) := by show _ = _; rw [Hmo.out, List.length_append, ← Hm.out.1]; rfl
          have hho := Hho.out w7 hb7
          clear hown' hgrow hat hb7 Hr76 Hr86 Hb6 Hdj
          cases hqj : q ((j : Int) + 1)
          · rw [hqj] at hho
            have Hst : Hid (outN q o L N j = outN q o L N (j + 1)) := by show _ = _; rw [Hou.out, hqj]; simp
            clear hqj
            refine hho.mono ?_
            rintro e w8 ⟨rfl, l8⟩
            have Hb8 : Hid (Below w.heap.size w w8) := Hb7.out.trans (l8.mono Hb7.out.size)
            have Hr78 : Hid (w8.ownsRow w.heap.size 3 1 (.slice a9 n9 c9) (m7 + 1) (ints (moreN L N j))) := row_keep Hr77.out (fun y hy => l8.block y (row_lt Hr77.out y hy))
            have Hr88 : Hid (w8.ownsRow w.heap.size 3 1 (.slice a8 n8 c8) m8 (ints (outN q o L N (j + 1)))) := row_keep Hr87.out (fun y hy => l8.block y (row_lt Hr87.out y hy))
            clear hho l8 xf7 Hb7 Hr77 Hr87
            go_wp2_with fail
            go_roundw
            case rel => exact ⟨j, m7 + 1, m8, by omega, hm71, h8, by go_num, ⟨Hm7.out, by rw [Hst.out]; exact Hm.out.2⟩, Hr78, by rw [Hst.out]; exact Hr88, Hdj7, Hb8⟩
            case measure => simp [intOf]
          · rw [hqj] at hho
            refine hho.mono ?_
            rintro e w8 ⟨rfl, l8⟩
            have Hb8 : Hid (Below w.heap.size w w8) := Hb7.out.trans (l8.mono Hb7.out.size)
            have Hr78 : Hid (w8.ownsRow w.heap.size 3 1 (.slice a9 n9 c9) (m7 + 1) (ints (moreN L N j))) := row_keep Hr77.out (fun y hy => l8.block y (row_lt Hr77.out y hy))
            have Hr88 : Hid (w8.ownsRow w.heap.size 3 1 (.slice a8 n8 c8) m8 (ints (outN q o L N (j + 1)))) := row_keep Hr87.out (fun y hy => l8.block y (row_lt Hr87.out y hy))
            have ham := among6_any (.slice a8 n8 c8) (outN q o L N (j + 1)) ((j : Int) + 1) w8.heap.size w8 (Lrd.own Hr88.out Hm.out.2) (by have := Hm.out.2; omega)
            clear hho l8 xf7 Hb7 Hr77 Hr87
            by_cases hmo : (j : Int) + 1 ∈ o
            · rw [decide_eq_true ((out_mem hk).2 hmo)] at ham
              have Hst : Hid (outN q o L N j = outN q o L N (j + 1)) := by show _ = _; rw [Hou.out, hqj, decide_eq_true hmo]; simp
              clear hqj hmo
              go_wp2_with fail
              refine ham.mono ?_
              rintro e w9 ⟨rfl, rfl⟩
              clear ham
              go_wp2_with fail
              go_roundw
              case rel => exact ⟨j, m7 + 1, m8, by omega, hm71, h8, by go_num, ⟨Hm7.out, by rw [Hst.out]; exact Hm.out.2⟩, Hr78, by rw [Hst.out]; exact Hr88, Hdj7, Hb8⟩
              case measure => simp [intOf]
            · rw [decide_eq_false (fun h => hmo ((out_mem hk).1 h))] at ham
              have Hst : Hid (outN q o L N j = outN q o L N (j + 1) ++ [(j : Int) + 1]) := by show _ = _; rw [Hou.out, hqj, decide_eq_false hmo]; simp
              have hm81 : m8 + 1 ≤ 800 := by
                have := Hmj.out.2
                rw [Hst.out, List.length_append, ← Hm.out.2] at this
                simpa using this
              clear hqj hmo
              go_wp2_with fail
              refine ham.mono ?_
              rintro e w9 ⟨rfl, hw9⟩
              subst hw9
              clear ham
              go_wp2_with (at_builtin; refine wpList_append_own_at _ rfl _ _ 42 rfl w.heap.size 3 i0 (.int .i64 0) 1 8 Tryd.underlying42 HI.out.1 HI.out.2.1 HI.out.2.2.1 HI.out.2.2.2 rfl (by decide) _ _ _ rfl (Hr88.out.alloc _) ⟨w9.heap.size, 0, none⟩ 1 1 [.int .i64 ((j : Int) + 1)] rfl rfl (cell_one_new _ _ _) (by simp [Value.oneCell']) (by simp [maxLen]; omega) (by omega) (by have := Hb8.out.size; simp; omega) ?_; intro v' w10 hown' hgrow _ hat; obtain ⟨a10, n10, c10, hv10⟩ := row_slice hown'; subst hv10)
              have Hb10 : Hid (Below w.heap.size w w10) := mine_grown Hb8.out hgrow Hr88.out
              have Hr80 : Hid (w10.ownsRow w.heap.size 3 1 (.slice a10 n10 c10) (m8 + 1) (ints (outN q o L N j))) := by
                show w10.ownsRow w.heap.size 3 1 (.slice a10 n10 c10) (m8 + 1) (ints (outN q o L N j))
                rw [Hst.out]
                simpa [ints] using hown'
              have Hdj8 : Hid (∀ y, (Value.slice a8 n8 c8).ownBlock = some y → (Value.slice a9 n9 c9).ownBlock ≠ some y) := fun y h1 h2 => Hdj7.out y h2 h1
              have Hr70 : Hid (w10.ownsRow w.heap.size 3 1 (.slice a9 n9 c9) (m7 + 1) (ints (moreN L N j))) := other_grown hgrow Hr78.out Hdj8.out
              have Hdj0 : Hid (∀ y, (Value.slice a9 n9 c9).ownBlock = some y → (Value.slice a10 n10 c10).ownBlock ≠ some y) := fun y h1 h2 => other_new hat Hr78.out Hdj8.out y h2 h1
              have Hm8 : Hid (m8 + 1 = (outN q o L N j).length) := by show _ = _; rw [Hst.out, List.length_append, ← Hm.out.2]; rfl
              clear hown' hgrow hat Hr78 Hr88 Hb8
              go_wp2_with fail
              go_roundw
              case rel => exact ⟨j, m7 + 1, m8 + 1, by omega, hm71, hm81, by go_num, ⟨Hm7.out, Hm8.out⟩, Hr70, Hr80, Hdj0, Hb10⟩
              case measure => simp [intOf]
        · have hsp' : (oo.sp == 4) = false := by simpa using hsp
          have Hst : Hid (moreN L N j = moreN L N (j + 1) ∧ outN q o L N j = outN q o L N (j + 1)) := step_no hk (Ht.out.1.trans (decide_eq_false hsp))
          clear hsp
          go_wp2_with fail
          go_roundw
          case rel => exact ⟨j, m7, m8, by omega, h7, h8, by go_num, ⟨by rw [Hst.out.1]; exact Hm.out.1, by rw [Hst.out.2]; exact Hm.out.2⟩, by rw [Hst.out.1]; exact Hr75, by rw [Hst.out.2]; exact Hr85, Hdj, Hb5⟩
          case measure => simp [intOf]
    · have hkI : ¬ (1 : Int) ≤ (k : Int) := by omega
      obtain rfl : k = 0 := by omega
      have hA := HA.out.below Hbe.out
      have hpu := prune_full hA.rm (.slice a7 n7 c7) (moreN L N 0) (Lrd.own Hr7.out Hm.out.1) HO.out.2.2.2.2.1 (fun a ha => by
        unfold moreN at ha
        obtain ⟨z, hz, rfl⟩ := List.mem_map.1 ha
        have ht := (dsn_mem L N _ (by omega) z hz).2.2
        unfold t4 at ht
        cases e : ob L z with
        | none => rw [e] at ht; simp at ht
        | some oo =>
          obtain ⟨i, T, h1, h2, h3⟩ := HO.out.2.1.find e
          exact ⟨T, List.mem_of_getElem? h1, by rw [plc_some e, h3.at_]⟩) (by have := HO.out.2.2.2.2.2.1; omega) (by have := Hm.out.1; omega) (by omega)
      have Hkp : Hid (∀ W', Touch [sb, mb, b, g] wr W' → W'.ownsRow w.heap.size 3 1 (.slice a8 n8 c8) (outN q o L N 0).length (ints (outN q o L N 0))) := fun W' t => by
        have h := hA.keep4 t Hr8.out
        rw [Hm.out.2] at h
        exact h
      have Hlt8 : Hid (∀ y, (Value.slice a8 n8 c8).ownBlock = some y → y < wr.heap.size) := fun y hy => row_lt Hr8.out y hy
      have Htb : Hid (Touch [sb, mb, b, g] w wr) := Touch.of_below Hbe.out _
      clear hA Hr7 Hr8
      go_wp2_with fail
      refine hpu.mono ?_
      rintro e w5 ⟨rfl, t5, lv5, ws5, n5, o5, R5, hn5⟩
      have Hk5 : Hid (w5.ownsRow w.heap.size 3 1 (.slice a8 n8 c8) (outN q o L N 0).length (ints (outN q o L N 0))) := Hkp.out w5 t5
      have Ht5 : Hid (Touch [sb, mb, b, g] w w5) := Htb.out.trans t5
      have Ho5 : Hid (∀ y, lv5.ownBlock = some y → w.heap.size ≤ y ∧ (Value.slice a8 n8 c8).ownBlock ≠ some y) := fun y hy => ⟨Nat.le_trans Htb.out.size (o5 y hy), fun e => by have := Hlt8.out y e; have := o5 y hy; omega⟩
      have HR5 : Hid (Rm w1 n1 w5 sb b g mb lv5 c x sw ws5 (mk_ (inS' (hta c sw th) S (ded (l ++ moreN L N 0))) (ded (l ++ moreN L N 0)) th) ((ded (l ++ moreN L N 0)).filter (hta c sw th)) n5 (inS' (hta c sw th) S (ded (l ++ moreN L N 0))) ∧ n5 ≤ n + 20000) := ⟨R5, hn5⟩
      clear hpu t5 o5 R5 hn5 Hkp Htb
      go_wp2
      go_ret
      exact ⟨_, rfl, Ht5.out, Hk5.out, lv5, ws5, n5, Ho5.out, HR5.out.1, HR5.out.2⟩
end

end Go.Proofs.YtfihjmoaibmllaaDoor

/-
  RemsetHolds: the list by numbers, over Store and Prune.
-/
set_option linter.unusedVariables false
set_option maxRecDepth 20000
namespace Go.Proofs.YtfihjmoaibmllaaDoor
open Go.RowKit Go.Shelf

/-- The list, by numbers and by places; Held. -/
structure Ps (L : List LT) (th : List Tng) (Fr : List (Nat × List Int)) (ls l : List Int) : Prop where
  sk : Sk L th
  ag : Ag L th (Fr.map (·.2))
  l_ : l = ls.map (plc L)
  nd : ls.Nodup
  t4_ : ∀ z, z ∈ ls → t4 L z = true
  h_ : ∀ T, T ∈ th → T.h = decide ((T.no : Int) ∈ ls)

/-- Whoever holds a young one is in the list. -/
def Cov (c : Cfg) (sw : Bool) (th : List Tng) (ls : List Int) : Prop := ∀ T, T ∈ th → q4T c sw T = true → (T.no : Int) ∈ ls

theorem ded_app (l : List Int) (hl : l.Nodup) (m : List Int) : m.Nodup → ded (l ++ m) = l ++ m.filter (fun a => !decide (a ∈ l)) := by
  revert m
  refine snoc_ind (fun _ => by rw [List.append_nil, ded_nodup l hl]; simp) (fun xs x ih => ?_)
  intro h
  rw [List.nodup_append] at h
  obtain ⟨h1, -, h3⟩ := h
  have hx : x ∉ xs := fun hm => h3 x hm x (by simp) rfl
  rw [← List.append_assoc, ded_snoc, ih h1, List.filter_append]
  unfold ded1
  by_cases hm : x ∈ l
  · rw [if_pos (by simp [hm]), List.filter_cons_of_neg (by simp [hm]), List.filter_nil, List.append_nil]
  · rw [if_neg (by simp [hm, hx]), List.filter_cons_of_pos (by simp [hm]), List.filter_nil, List.append_assoc]

section
variable {c : Cfg} {x : Tps} {sw : Bool} {ws : Nat → Int} {th : List Tng} {w : World} {b g : Nat} {L : List LT} {Fr : List (Nat × List Int)} {ls l : List Int}

theorem thing_t4 (S : Sk L th) {T : Tng} (hT : T ∈ th) : t4 L T.no = inS 4 T := by
  obtain ⟨o, ho, hm⟩ := S.ob hT
  rw [t4_some ho]
  show decide (o.sp = 4) = decide (T.sp = 4)
  rw [hm.sp]

theorem t4_thing (S : Sk L th) {z : Int} (h : t4 L z = true) : ∃ T, T ∈ th ∧ (T.no : Int) = z ∧ plc L z = T.at_ ∧ inS 4 T = true := by
  cases e : ob L z with
  | none => unfold t4 at h; rw [e] at h; simp at h
  | some o =>
    obtain ⟨i, T, h1, h2, h3⟩ := S.find e
    have hT := List.mem_of_getElem? h1
    refine ⟨T, hT, h2, by rw [plc_some e, h3.at_], ?_⟩
    rw [← thing_t4 S hT, h2]
    exact h

theorem t4_inj (S : Sk L th) (H : Ax w b g c x sw ws th) {y z : Int} (hy : t4 L y = true) (hz : t4 L z = true) (e : plc L y = plc L z) : y = z := by
  obtain ⟨T, h1, h2, h3, -⟩ := t4_thing S hy
  obtain ⟨U, k1, k2, k3, -⟩ := t4_thing S hz
  have := at_inj H h1 k1 (by rw [← h3, ← k3]; exact e)
  rw [← h2, ← k2, this]

theorem hN_thing (S : Sk L th) (H : Ax w b g c x sw ws th) (A : Ag L th (Fr.map (·.2))) {T : Tng} (hT : T ∈ th) : hN L sw Fr T.no = hyT c sw T := by
  obtain ⟨n, o, e, h, -⟩ := S.of T hT
  have hn := (List.getElem?_eq_some_iff.1 h).1
  have hl := A.len
  rw [List.length_map] at hl
  obtain ⟨p, hp⟩ : ∃ p, Fr[n]? = some p := ⟨_, List.getElem?_eq_getElem (by omega)⟩
  have e1 : ((T.no : Nat) : Int) = (n : Int) + 1 := by omega
  rw [e1, hN_at hp]
  exact (hy_fields S H A hT (by rw [e, Nat.add_sub_cancel, List.getElem?_map, hp]; rfl)).symm

/-- Of a tenured one: what Prune asks. -/
theorem hta_num (S : Sk L th) (H : Ax w b g c x sw ws th) (A : Ag L th (Fr.map (·.2))) {z : Int} (hz : t4 L z = true) : hta c sw th (plc L z) = hN L sw Fr z := by
  obtain ⟨T, h1, h2, h3, h4⟩ := t4_thing S hz
  rw [h3, hta_thing H h1, ← h2, hN_thing S H A h1]
  unfold q4T
  rw [h4, Bool.true_and]

/-- The list behind Prune, by numbers. -/
abbrev renN (q : Int → Bool) (ls D : List Int) : List Int := ls.filter q ++ D.filter (fun z => q z && !decide (z ∈ ls.filter q))

theorem nodup_plc (S : Sk L th) (H : Ax w b g c x sw ws th) {D : List Int} (hD : D.Nodup) (ht : ∀ z, z ∈ D → t4 L z = true) : (D.map (plc L)).Nodup := by
  rw [List.nodup_iff_pairwise_ne, List.pairwise_map]
  rw [List.nodup_iff_pairwise_ne] at hD
  exact hD.imp_of_mem (fun {y z} hy hz h e => h (t4_inj S H (ht y hy) (ht z hz) e))

theorem mem_plc (S : Sk L th) (H : Ax w b g c x sw ws th) {D : List Int} (ht : ∀ z, z ∈ D → t4 L z = true) {z : Int} (hz : t4 L z = true) : plc L z ∈ D.map (plc L) ↔ z ∈ D := by
  rw [List.mem_map]
  constructor
  · rintro ⟨y, hy, e⟩
    rw [← t4_inj S H (ht y hy) hz e]
    exact hy
  · intro h
    exact ⟨z, h, rfl⟩

theorem Ps.ren (P : Ps L th Fr ls l) (H : Ax w b g c x sw ws th) {D : List Int} (hD : D.Nodup) (ht : ∀ z, z ∈ D → t4 L z = true) : (ded (l ++ D.map (plc L))).filter (hta c sw th) = (renN (hN L sw Fr) ls D).map (plc L) := by
  have e1 : ∀ X : List Int, (∀ z, z ∈ X → t4 L z = true) → (X.map (plc L)).filter (hta c sw th) = (X.filter (hN L sw Fr)).map (plc L) := fun X hX => by
    rw [List.filter_map]
    congr 1
    exact List.filter_congr (fun z hz => hta_num P.sk H P.ag (hX z hz))
  rw [P.l_, ded_app _ (nodup_plc P.sk H P.nd P.t4_) _ (nodup_plc P.sk H hD ht), List.filter_append, e1 ls P.t4_, List.map_append]
  congr 1
  have e2 : (D.map (plc L)).filter (fun a => !decide (a ∈ ls.map (plc L))) = (D.filter (fun z => !decide (z ∈ ls))).map (plc L) := by
    rw [List.filter_map]
    congr 1
    refine List.filter_congr (fun z hz => ?_)
    show (!decide (plc L z ∈ ls.map (plc L))) = _
    rw [decide_eq_decide.2 (mem_plc P.sk H P.t4_ (ht z hz))]
  rw [e2, e1 _ (fun z hz => ht z (List.mem_filter.1 hz).1), List.filter_filter]
  congr 1
  refine List.filter_congr (fun z hz => ?_)
  cases hq : hN L sw Fr z
  · simp
  · simp [hq]

theorem ren_mem {q : Int → Bool} {D : List Int} {z : Int} : z ∈ renN q ls D ↔ q z = true ∧ (z ∈ ls ∨ z ∈ D) := by
  unfold renN
  rw [List.mem_append, List.mem_filter, List.mem_filter]
  constructor
  · rintro (⟨h1, h2⟩ | ⟨h1, h2⟩)
    · exact ⟨h2, .inl h1⟩
    · simp at h2
      exact ⟨h2.1, .inr h1⟩
  · rintro ⟨h1, h2⟩
    by_cases h : z ∈ ls
    · exact .inl ⟨h, h1⟩
    · rcases h2 with h2 | h2
      · exact absurd h2 h
      · exact .inr ⟨h2, by simp [h1, h]⟩

/-- Behind Prune. -/
theorem Ps.renew (P : Ps L th Fr ls l) (H : Ax w b g c x sw ws th) {D : List Int} (hD : D.Nodup) (ht : ∀ z, z ∈ D → t4 L z = true) (hc : ∀ T, T ∈ th → q4T c sw T = true → (T.no : Int) ∈ ls ∨ (T.no : Int) ∈ D) (S0 : Int → Bool) :
    Ps L (mk_ (inS' (hta c sw th) S0 (ded (l ++ D.map (plc L)))) (ded (l ++ D.map (plc L))) th) Fr (renN (hN L sw Fr) ls D) ((ded (l ++ D.map (plc L))).filter (hta c sw th)) ∧ Cov c sw (mk_ (inS' (hta c sw th) S0 (ded (l ++ D.map (plc L)))) (ded (l ++ D.map (plc L))) th) (renN (hN L sw Fr) ls D) := by
  have hns : ∀ {T : Tng}, T ∈ th → (T.at_ ∈ ded (l ++ D.map (plc L)) ↔ inS 4 T = true ∧ ((T.no : Int) ∈ ls ∨ (T.no : Int) ∈ D)) := fun {T} hT => by
    rw [mem_ded, List.mem_append, P.l_]
    have key : ∀ X : List Int, (∀ z, z ∈ X → t4 L z = true) → (T.at_ ∈ X.map (plc L) ↔ inS 4 T = true ∧ (T.no : Int) ∈ X) := fun X hX => by
      constructor
      · intro h
        obtain ⟨z, hz, e⟩ := List.mem_map.1 h
        obtain ⟨U, h1, h2, h3, h4⟩ := t4_thing P.sk (hX z hz)
        have := at_inj H h1 hT (by rw [← h3]; exact e)
        subst this
        exact ⟨h4, by rw [h2]; exact hz⟩
      · rintro ⟨h1, h2⟩
        exact List.mem_map.2 ⟨_, h2, P.sk.plc hT⟩
    rw [key ls P.t4_, key D ht]
    constructor
    · rintro (⟨h1, h2⟩ | ⟨h1, h2⟩)
      · exact ⟨h1, .inl h2⟩
      · exact ⟨h1, .inr h2⟩
    · rintro ⟨h1, h2 | h2⟩
      · exact .inl ⟨h1, h2⟩
      · exact .inr ⟨h1, h2⟩
  have hq4 : ∀ {T : Tng}, T ∈ th → q4T c sw T = true → (T.no : Int) ∈ renN (hN L sw Fr) ls D := fun {T} hT h => by
    rw [ren_mem]
    refine ⟨?_, hc T hT h⟩
    rw [hN_thing P.sk H P.ag hT]
    unfold q4T at h
    simp at h
    exact h.2
  refine ⟨⟨P.sk.heldAll _ _, P.ag.heldAll _ _, P.ren H hD ht, ?_, fun z hz => ?_, fun V hV => ?_⟩, fun V hV hq => ?_⟩
  · unfold renN
    rw [List.nodup_append]
    refine ⟨P.nd.filter _, hD.filter _, fun y hy z hz e => ?_⟩
    subst e
    have := (List.mem_filter.1 hz).2
    simp only [Bool.and_eq_true, Bool.not_eq_true', decide_eq_false_iff_not] at this
    exact this.2 hy
  · rcases (ren_mem.1 hz).2 with h | h
    · exact P.t4_ z h
    · exact ht z h
  · obtain ⟨T, hT, e, eh⟩ := mem_mk hV
    have en : V.no = T.no := by rw [e]
    rw [en, eh]
    by_cases hm : T.at_ ∈ ded (l ++ D.map (plc L))
    · rw [if_pos hm]
      obtain ⟨h1, h2⟩ := (hns hT).1 hm
      unfold inS'
      rw [if_pos hm, hta_thing H hT]
      cases hq : q4T c sw T
      · refine (decide_eq_false (fun hh => ?_)).symm
        have := (ren_mem.1 hh).1
        rw [hN_thing P.sk H P.ag hT] at this
        unfold q4T at hq
        rw [h1, this] at hq
        simp at hq
      · exact (decide_eq_true (hq4 hT hq)).symm
    · rw [if_neg hm, P.h_ T hT]
      have h1 : ¬ (T.no : Int) ∈ ls := fun hh => hm ((hns hT).2 ⟨by rw [← thing_t4 P.sk hT]; exact P.t4_ _ hh, .inl hh⟩)
      have h2 : ¬ (T.no : Int) ∈ renN (hN L sw Fr) ls D := fun hh => by
        rcases (ren_mem.1 hh).2 with h | h
        · exact h1 h
        · exact hm ((hns hT).2 ⟨by rw [← thing_t4 P.sk hT]; exact ht _ h, .inr h⟩)
      rw [decide_eq_false h1, decide_eq_false h2]
  · obtain ⟨T, hT, e, -⟩ := mem_mk hV
    have en : V.no = T.no := by rw [e]
    have eq : q4T c sw V = q4T c sw T := by rw [e]; rfl
    rw [en]
    exact hq4 hT (by rw [← eq]; exact hq)

/-- The set behind Prune is its list. -/
theorem ren_set (D : List Int) (l : List Int) (q : Int → Bool) : ∀ a, inS' q (fun a => decide (a ∈ l)) (ded (l ++ D)) a = decide (a ∈ (ded (l ++ D)).filter q) := fun a => by
  unfold inS'
  by_cases h : a ∈ ded (l ++ D)
  · rw [if_pos h]
    cases hq : q a
    · exact (decide_eq_false (fun hh => by rw [(List.mem_filter.1 hh).2] at hq; simp at hq)).symm
    · exact (decide_eq_true (List.mem_filter.2 ⟨h, hq⟩)).symm
  · rw [if_neg h]
    have h1 : ¬ a ∈ l := fun hh => h ((mem_ded _ a).2 (List.mem_append_left _ hh))
    show decide (a ∈ l) = _
    rw [decide_eq_false h1, decide_eq_false (fun hh => h (List.mem_filter.1 hh).1)]

theorem dsn_nodup (L : List LT) (N : Nat) : ∀ d, d ≤ N → (dsn L N d).Nodup
  | 0, _ => by simp [dsn]
  | d + 1, h => by
    rw [dsn, List.nodup_append]
    refine ⟨dsn_nodup L N d (by omega), by split <;> simp, fun y hy z hz e => ?_⟩
    subst e
    have := (dsn_mem L N d (by omega) y hy).1
    split at hz
    · simp at hz
      omega
    · simp at hz

/-- All tenured ones are named. -/
theorem dsn_all (L : List LT) (N : Nat) {z : Int} (h1 : 1 ≤ z) (h2 : z ≤ N) (ht : t4 L z = true) : z ∈ dsn L N N := by
  have key : ∀ d, d ≤ N → ((N - d : Nat) : Int) < z → z ∈ dsn L N d := by
    intro d
    induction d with
    | zero => intro _ h; omega
    | succ d ih =>
      intro hd h
      rw [dsn, List.mem_append]
      by_cases he : z = ((N - d : Nat) : Int)
      · right
        rw [← he, if_pos ht]
        simp
      · exact .inl (ih (by omega) (by omega))
  exact key N (Nat.le_refl _) (by omega)

theorem out_ren (q : Int → Bool) (ls : List Int) (L : List LT) (N : Nat) : outN q (ls.filter q) L N 0 = renN q ls (dsn L N N) := rfl

/-- One field is written, in the arena and by numbers. -/
theorem deed_set {F : List (Nat × List Int)} (S : Sk L th) (A : Ag L th (F.map (·.2))) {ti jn f : Nat} {T : Tng} {pr : Nat × List Int} {ot : Int} (hh : Bool) (hT : th[ti]? = some T) (hp : F[jn]? = some pr) (hno : T.no - 1 = jn) (hps : T.ps = pr.2.map (plc L)) (hot : InI ot) :
    Sk L (th.set ti { T with ps := T.ps.set f (plc L ot), h := hh }) ∧ Ag L (th.set ti { T with ps := T.ps.set f (plc L ot), h := hh }) ((F.set jn (pr.1, pr.2.set f ot)).map (·.2)) := by
  have hTm := List.mem_of_getElem? hT
  have em : (F.set jn (pr.1, pr.2.set f ot)).map (·.2) = (F.map (·.2)).set jn (pr.2.set f ot) := by rw [List.map_set]
  have hm2 : pr.2 ∈ F.map (·.2) := List.mem_map.2 ⟨pr, List.mem_of_getElem? hp, rfl⟩
  have hmem : ∀ fs, fs ∈ (F.map (·.2)).set jn (pr.2.set f ot) → fs ∈ F.map (·.2) ∨ fs = pr.2.set f ot := fun fs h => List.mem_or_eq_of_mem_set h
  refine ⟨S.set ti T _ hT rfl (fun o h => ⟨h.at_, h.sp, h.s, h.k, h.p, h.r, h.a, h.t, by rw [← h.pl]; simp, h.rl⟩), ?_⟩
  rw [em]
  refine ⟨by rw [List.length_set]; exact A.len, fun V hV fs hf => ?_, fun fs hfs z hz => ?_, fun fs hfs => ?_⟩
  · obtain ⟨j, hj⟩ := List.getElem?_of_mem hV
    rcases set_at_of hj with ⟨rfl, rfl⟩ | ⟨hne, hj2⟩
    · have hf2 : ((F.map (·.2)).set jn (pr.2.set f ot))[T.no - 1]? = some fs := hf
      rw [hno, List.getElem?_set_self (by have := (List.getElem?_eq_some_iff.1 hp).1; simpa using this)] at hf2
      simp at hf2
      show T.ps.set f (plc L ot) = fs.map (plc L)
      rw [← hf2, hps, List.map_set]
    · have hVm := List.mem_of_getElem? hj2
      have hnn : V.no - 1 ≠ jn := fun e => by
        obtain ⟨n1, o1, e1, -⟩ := S.of V hVm
        obtain ⟨n2, o2, e2, -⟩ := S.of T hTm
        obtain ⟨q1, q2⟩ := List.getElem?_eq_some_iff.1 hj2
        obtain ⟨r1, r2⟩ := List.getElem?_eq_some_iff.1 hT
        have hd := List.pairwise_iff_getElem.1 S.ord
        rcases Nat.lt_or_gt_of_ne hne with h | h
        · have := hd j ti q1 r1 h
          rw [q2, r2] at this
          omega
        · have := hd ti j r1 q1 h
          rw [q2, r2] at this
          omega
      rw [List.getElem?_set_ne (fun e => hnn e.symm)] at hf
      exact A.ps V hVm fs hf
  · rcases hmem fs hfs with h | rfl
    · exact A.ini fs h z hz
    · rcases List.mem_or_eq_of_mem_set hz with h | rfl
      · exact A.ini _ hm2 z h
      · exact hot
  · rcases hmem fs hfs with h | rfl
    · exact A.few fs h
    · rw [List.length_set]
      exact A.few _ hm2
end

end Go.Proofs.YtfihjmoaibmllaaDoor

/-
  RemsetHolds: Store by numbers; the list's length.
-/
set_option linter.unusedVariables false
set_option maxRecDepth 20000
namespace Go.Proofs.YtfihjmoaibmllaaDoor
open Go.RowKit Go.Shelf

theorem nodup_bound : ∀ (N : Nat) (l : List Int), l.Nodup → (∀ z, z ∈ l → 1 ≤ z ∧ z ≤ N) → l.length ≤ N
  | 0, l, _, h => by
    cases l with
    | nil => exact Nat.le_refl _
    | cons z l =>
      have := h z (List.mem_cons_self ..)
      omega
  | N + 1, l, hn, h => by
    by_cases hm : ((N + 1 : Nat) : Int) ∈ l
    · have h1 := nodup_bound N (l.erase ((N + 1 : Nat) : Int)) (hn.erase _) (fun z hz => by
        obtain ⟨h2, h3⟩ := hn.mem_erase_iff.1 hz
        have := h z h3
        omega)
      rw [List.length_erase_of_mem hm] at h1
      omega
    · have h1 := nodup_bound N l hn (fun z hz => by
        have := h z hz
        have : z ≠ ((N + 1 : Nat) : Int) := fun e => hm (by rw [← e]; exact hz)
        omega)
      omega

section
variable {c : Cfg} {x : Tps} {sw : Bool} {ws : Nat → Int} {th : List Tng} {w : World} {b g : Nat} {L : List LT} {Fr : List (Nat × List Int)} {ls l : List Int}

theorem Ps.in_ (P : Ps L th Fr ls l) : ∀ z, z ∈ ls → 1 ≤ z ∧ z ≤ L.length := fun z hz => by
  obtain ⟨T, h1, h2, -⟩ := t4_thing P.sk (P.t4_ z hz)
  have := P.sk.le h1
  omega

theorem Ps.few (P : Ps L th Fr ls l) : ls.length ≤ L.length := nodup_bound _ _ P.nd P.in_

theorem Ps.mem (P : Ps L th Fr ls l) (H : Ax w b g c x sw ws th) {T : Tng} (hT : T ∈ th) : T.at_ ∈ l ↔ (T.no : Int) ∈ ls := by
  rw [P.l_]
  constructor
  · intro h
    obtain ⟨z, hz, e⟩ := List.mem_map.1 h
    obtain ⟨U, h1, h2, h3, -⟩ := t4_thing P.sk (P.t4_ z hz)
    have := at_inj H h1 hT (by rw [← h3]; exact e)
    subst this
    rw [h2]
    exact hz
  · intro h
    exact List.mem_map.2 ⟨_, h, P.sk.plc hT⟩

theorem Ps.things (P : Ps L th Fr ls l) : ∀ a, a ∈ l → ∃ T, T ∈ th ∧ T.at_ = a := fun a ha => by
  rw [P.l_] at ha
  obtain ⟨z, hz, rfl⟩ := List.mem_map.1 ha
  obtain ⟨T, h1, -, h3, -⟩ := t4_thing P.sk (P.t4_ z hz)
  exact ⟨T, h1, h3.symm⟩

theorem Ps.nomiss (P : Ps L th Fr ls l) (C : Cov c sw th ls) (H : Ax w b g c x sw ws th) : ∀ T, T ∈ th.filter (inS 4) → miss c sw (fun a => decide (a ∈ l)) T = false := fun T hT => by
  obtain ⟨h1, h2⟩ := List.mem_filter.1 hT
  unfold miss
  cases hy : hyT c sw T
  · simp
  · have := C T h1 (by unfold q4T; rw [h2, hy]; rfl)
    simp [(P.mem H h1).2 this]

theorem set_cases (S : Sk L th) {ti : Nat} {T U V : Tng} (hT : th[ti]? = some T) (hV : V ∈ th.set ti U) : V = U ∨ (V ∈ th ∧ V.no ≠ T.no) := by
  obtain ⟨j, hj⟩ := List.getElem?_of_mem hV
  rcases set_at_of hj with ⟨rfl, rfl⟩ | ⟨hne, hj2⟩
  · exact .inl rfl
  · refine .inr ⟨List.mem_of_getElem? hj2, fun e => ?_⟩
    obtain ⟨q1, q2⟩ := List.getElem?_eq_some_iff.1 hj2
    obtain ⟨r1, r2⟩ := List.getElem?_eq_some_iff.1 hT
    have hd := List.pairwise_iff_getElem.1 S.ord
    rcases Nat.lt_or_gt_of_ne hne with h | h
    · have := hd j ti q1 r1 h
      rw [q2, r2] at this
      omega
    · have := hd ti j r1 q1 h
      rw [q2, r2] at this
      omega

theorem Ps.stl_is (P : Ps L th Fr ls l) (H : Ax w b g c x sw ws th) {T : Tng} (hT : T ∈ th) (ot : Int) : stl c sw l T.at_ (plc L ot) = (inS 4 T && (ynl L sw ot && !decide ((T.no : Int) ∈ ls))) := by
  unfold stl
  rw [spc_sp H hT, yg_plc P.sk H ot, decide_eq_decide.2 (P.mem H hT)]
  rfl

/-- A pointer is stored: the list stays. -/
theorem Ps.store_no (P : Ps L th Fr ls l) (C : Cov c sw th ls) (H : Ax w b g c x sw ws th) {ti jn f : Nat} {T : Tng} {pr : Nat × List Int} {ot : Int} (hT : th[ti]? = some T) (hp : Fr[jn]? = some pr) (hno : T.no - 1 = jn) (hps : T.ps = pr.2.map (plc L)) (hot : InI ot) (hs : stl c sw l T.at_ (plc L ot) = false) :
    Ps L (th.set ti { T with ps := T.ps.set f (plc L ot) }) (Fr.set jn (pr.1, pr.2.set f ot)) ls l ∧ Cov c sw (th.set ti { T with ps := T.ps.set f (plc L ot) }) ls := by
  have hTm := List.mem_of_getElem? hT
  obtain ⟨s1, a1⟩ := deed_set (f := f) P.sk P.ag T.h hT hp hno hps hot
  refine ⟨⟨s1, a1, P.l_, P.nd, P.t4_, fun V hV => ?_⟩, fun V hV hq => ?_⟩
  · rcases set_cases P.sk hT hV with rfl | ⟨h1, -⟩
    · exact P.h_ T hTm
    · exact P.h_ V h1
  · rcases set_cases P.sk hT hV with rfl | ⟨h1, -⟩
    · show (T.no : Int) ∈ ls
      have hq2 : (inS 4 T && (T.ps.set f (plc L ot)).any (yg c sw)) = true := hq
      simp only [Bool.and_eq_true] at hq2
      obtain ⟨y, hy, hyy⟩ := List.any_eq_true.1 hq2.2
      rcases List.mem_or_eq_of_mem_set hy with h | rfl
      · exact C T hTm (by unfold q4T hyT; rw [hq2.1, Bool.true_and]; exact List.any_eq_true.2 ⟨y, h, hyy⟩)
      · rw [P.stl_is H hTm, hq2.1, ← yg_plc P.sk H ot, hyy] at hs
        simpa using hs
    · exact C V h1 hq

/-- A pointer is stored: the thing comes into the list. -/
theorem Ps.store_yes (P : Ps L th Fr ls l) (C : Cov c sw th ls) (H : Ax w b g c x sw ws th) {ti jn f : Nat} {T : Tng} {pr : Nat × List Int} {ot : Int} (hT : th[ti]? = some T) (hp : Fr[jn]? = some pr) (hno : T.no - 1 = jn) (hps : T.ps = pr.2.map (plc L)) (hot : InI ot) (hs : stl c sw l T.at_ (plc L ot) = true) :
    Ps L (th.set ti { T with ps := T.ps.set f (plc L ot), h := true }) (Fr.set jn (pr.1, pr.2.set f ot)) (ls ++ [(T.no : Int)]) (l ++ [T.at_]) ∧ Cov c sw (th.set ti { T with ps := T.ps.set f (plc L ot), h := true }) (ls ++ [(T.no : Int)]) := by
  have hTm := List.mem_of_getElem? hT
  obtain ⟨s1, a1⟩ := deed_set (f := f) P.sk P.ag true hT hp hno hps hot
  rw [P.stl_is H hTm] at hs
  simp only [Bool.and_eq_true, Bool.not_eq_true', decide_eq_false_iff_not] at hs
  obtain ⟨h4, -, hnm⟩ := hs
  refine ⟨⟨s1, a1, by rw [P.l_, List.map_append, List.map_cons, List.map_nil, P.sk.plc hTm], ?_, fun z hz => ?_, fun V hV => ?_⟩, fun V hV hq => ?_⟩
  · rw [List.nodup_append]
    refine ⟨P.nd, by simp, fun y hy z hz e => ?_⟩
    simp only [List.mem_cons, List.not_mem_nil, or_false] at hz
    subst e hz
    exact hnm hy
  · rcases List.mem_append.1 hz with h | h
    · exact P.t4_ z h
    · simp only [List.mem_cons, List.not_mem_nil, or_false] at h
      subst h
      rw [thing_t4 P.sk hTm]
      exact h4
  · rcases set_cases P.sk hT hV with rfl | ⟨h1, h2⟩
    · show true = decide ((T.no : Int) ∈ ls ++ [(T.no : Int)])
      simp
    · rw [P.h_ V h1, decide_eq_decide, List.mem_append]
      constructor
      · exact .inl
      · rintro (h | h)
        · exact h
        · simp only [List.mem_cons, List.not_mem_nil, or_false] at h
          omega
  · rcases set_cases P.sk hT hV with rfl | ⟨h1, h2⟩
    · show (T.no : Int) ∈ ls ++ [(T.no : Int)]
      simp
    · exact List.mem_append_left _ (C V h1 hq)
end

end Go.Proofs.YtfihjmoaibmllaaDoor

/-
  RemsetHolds: what its loop keeps, and its calls.
-/
set_option linter.unusedVariables false
set_option maxRecDepth 20000
namespace Go.Proofs.YtfihjmoaibmllaaDoor
open Go.RowKit Go.Shelf

section
variable {w1 W W' : World} {n1 mm lb b sb g mb n n2 n3 : Nat} {lv fv : Value} {c : Cfg} {x : Tps} {sw : Bool} {ws : Nat → Int} {th : List Tng} {l : List Int} {S : Int → Bool} {L : List LT} {Fr : List (Nat × List Int)}

theorem Au.mono {m : Nat} (H : Au w1 n1 W mm lb b sb g mb lv c x sw ws th l n S L fv Fr n2) (h : n ≤ m) : Au w1 n1 W mm lb b sb g mb lv c x sw ws th l m S L fv Fr n2 :=
  ⟨H.mm_, H.ly, H.rm.mono h, H.fd, H.n12, H.dj⟩

/-- Another list grows. -/
theorem Au.list (H : Au w1 n1 W mm lb b sb g mb lv c x sw ws th l n S L fv Fr n2) {G : List Nat} (t : Touch G W W') (hG : ∀ q, q ∈ G → n3 ≤ q ∧ (∃ cs, W.heap[q]? = some (.cells cs 3 (0, 0))) ∧ lv.ownBlock ≠ some q) (hF : ∀ p, p ∈ Fr → p.1 < n3) (h13 : n1 ≤ n3) : Au w1 n1 W' mm lb b sb g mb lv c x sw ws th l n S L fv Fr n2 := by
  obtain ⟨⟨gs, hgs⟩, bs, hbs⟩ := H.rm.bq.ax.ar.rowTy
  have ne : ∀ y cs ty, W.heap[y]? = some (.cells cs ty (0, 0)) → ty ≠ 3 → y ∉ G := fun y cs ty hy hty hm => by
    obtain ⟨-, ⟨cs', hc⟩, -⟩ := hG y hm
    exact heap_ty_ne hy hc hty rfl
  have be : Below n1 W W' := t.below H.hn (fun q hq => Nat.le_trans h13 (hG q hq).1)
  have t0 := H.rm.bq.t0
  have t1 := H.rm.bq.t1
  have hmb : mb ∉ G := fun hm => by
    obtain ⟨-, ⟨cs', hc⟩, -⟩ := hG mb hm
    exact H.rm.rs.map.ne hc rfl
  have low : ∀ y, y < n1 → y ∉ G := fun y hy hm => by
    have := (hG y hm).1
    omega
  refine ⟨⟨(t.block _ H.mm_.lt (ne _ _ _ H.mm_.own (by decide))).trans H.mm_.own⟩, H.ly.below be, ⟨⟨H.rm.bq.ax.touch t (ne _ _ _ hbs (by decide)) (ne _ _ _ hgs (by decide)) (low _ t0) (low _ t1), H.rm.bq.be.trans be, H.rm.bq.lb, H.rm.bq.lg, t0, t1⟩, H.rm.rs.touch t (ne _ _ _ H.rm.rs.own (by decide)) hmb (fun q hq hm => (hG q hm).2.2 hq), H.rm.ls, H.rm.lm, H.rm.lv_, H.rm.hn⟩, H.fd.keep (fun q hq => ?_) (fun p hp => ?_), H.n12, H.dj⟩
  · refine t.block q (row_lt H.fd.row q hq) ?_
    rcases H.fd.row.2 with ⟨e, _⟩ | ⟨y, cp, cur, e, _, hy, _⟩
    · rw [e] at hq; simp [Value.ownBlock] at hq
    · rw [e] at hq
      simp [Value.ownBlock] at hq
      subst hq
      exact ne _ _ _ hy (by decide)
  · refine t.block _ (Array.getElem?_eq_some_iff.1 (H.fd.rows p hp).1).1 (fun hm => ?_)
    have := (hG _ hm).1
    have := hF p hp
    omega
end

theorem own_base {w : World} {base base' e size n : Nat} {v : Value} {xs : List Value} (h : w.ownsRow base e size v n xs) (hb : base' ≤ base) : w.ownsRow base' e size v n xs := by
  refine ⟨h.1, ?_⟩
  rcases h.2 with hh | ⟨g, cap, cur, e1, e2, e3⟩
  · exact .inl hh
  · exact .inr ⟨g, cap, cur, e1, Nat.le_trans hb e2, e3⟩

theorem own_low {w : World} {base e size n : Nat} {v : Value} {xs : List Value} (h : w.ownsRow base e size v n xs) {q : Nat} (hq : v.ownBlock = some q) : base ≤ q ∧ ∃ cs, w.heap[q]? = some (.cells cs e (0, 0)) := by
  rcases h.2 with ⟨e1, -⟩ | ⟨g, cap, cur, e1, e2, e3, -⟩
  · rw [e1] at hq; simp [Value.ownBlock] at hq
  · rw [e1] at hq
    simp [Value.ownBlock] at hq
    subst hq
    exact ⟨e2, _, e3⟩

/-- What the loop keeps: in memory the fields Fa and the list lr, by numbers Fp and ls. -/
def Hs (w1 : World) (n1 : Nat) (W : World) (mm lb b sb g mb : Nat) (c : Cfg) (x : Tps) (sw : Bool) (L : List LT) (fv : Value) (Fa Fp : List (Nat × List Int)) (n2 n3 n : Nat) (lsv : Value) (m : Nat) (lr ls : List Int) (cv : Bool) : Prop :=
  ∃ lv ws th l, Au w1 n1 W mm lb b sb g mb lv c x sw ws th l n (fun a => decide (a ∈ l)) L fv Fa n2 ∧ Ps L th Fp ls l ∧ (cv = true → Cov c sw th ls) ∧ (∀ q, lv.ownBlock = some q → lsv.ownBlock ≠ some q) ∧ W.ownsRow n3 3 1 lsv m (ints lr) ∧ m = lr.length ∧ (∀ p, p ∈ Fa → p.1 < n3) ∧ n1 ≤ n3 ∧ n3 ≤ W.heap.size

section
variable {w1 W W' : World} {n1 mm lb b sb g mb n n2 n3 m : Nat} {fv lsv : Value} {c : Cfg} {x : Tps} {sw : Bool} {ls lr : List Int} {L : List LT} {Fa Fp : List (Nat × List Int)} {cv : Bool}

theorem Hs.below (H : Hs w1 n1 W mm lb b sb g mb c x sw L fv Fa Fp n2 n3 n lsv m lr ls cv) (h : Below W.heap.size W W') : Hs w1 n1 W' mm lb b sb g mb c x sw L fv Fa Fp n2 n3 n lsv m lr ls cv := by
  obtain ⟨lv, ws, th, l, h1, h2, h3, h4, h5, h6, h7, h8, h9⟩ := H
  exact ⟨lv, ws, th, l, h1.below h, h2, h3, h4, row_keep h5 (fun y hy => h.block y (row_lt h5 y hy)), h6, h7, h8, Nat.le_trans h9 h.size⟩

theorem Hs.mono {k : Nat} (H : Hs w1 n1 W mm lb b sb g mb c x sw L fv Fa Fp n2 n3 n lsv m lr ls cv) (h : n ≤ k) : Hs w1 n1 W mm lb b sb g mb c x sw L fv Fa Fp n2 n3 k lsv m lr ls cv := by
  obtain ⟨lv, ws, th, l, h1, h2⟩ := H
  exact ⟨lv, ws, th, l, h1.mono h, h2⟩

theorem Hs.mm_ (H : Hs w1 n1 W mm lb b sb g mb c x sw L fv Fa Fp n2 n3 n lsv m lr ls cv) : Mm W mm lb b sb := by
  obtain ⟨lv, ws, th, l, h1, -⟩ := H
  exact h1.mm_
theorem Hs.ly (H : Hs w1 n1 W mm lb b sb g mb c x sw L fv Fa Fp n2 n3 n lsv m lr ls cv) : Ly n1 W lb c L := by
  obtain ⟨lv, ws, th, l, h1, -⟩ := H
  exact h1.ly
theorem Hs.hn (H : Hs w1 n1 W mm lb b sb g mb c x sw L fv Fa Fp n2 n3 n lsv m lr ls cv) : n1 ≤ W.heap.size := by
  obtain ⟨lv, ws, th, l, h1, -⟩ := H
  exact h1.hn
theorem Hs.fd (H : Hs w1 n1 W mm lb b sb g mb c x sw L fv Fa Fp n2 n3 n lsv m lr ls cv) : Fd W n2 fv Fa := by
  obtain ⟨lv, ws, th, l, h1, -⟩ := H
  exact h1.fd
theorem Hs.be (H : Hs w1 n1 W mm lb b sb g mb c x sw L fv Fa Fp n2 n3 n lsv m lr ls cv) : Below n1 w1 W := by
  obtain ⟨lv, ws, th, l, h1, -⟩ := H
  exact h1.rm.bq.be
theorem Hs.row (H : Hs w1 n1 W mm lb b sb g mb c x sw L fv Fa Fp n2 n3 n lsv m lr ls cv) : W.ownsRow n3 3 1 lsv m (ints lr) ∧ m = lr.length := by
  obtain ⟨lv, ws, th, l, h1, h2, h3, h4, h5, h6, -⟩ := H
  exact ⟨h5, h6⟩
theorem Hs.few (H : Hs w1 n1 W mm lb b sb g mb c x sw L fv Fa Fp n2 n3 n lsv m lr ls cv) : ls.length ≤ L.length ∧ (∀ z, z ∈ ls → 1 ≤ z ∧ z ≤ L.length) ∧ Fp.length = L.length ∧ ∀ p, p ∈ Fp → (∀ z, z ∈ p.2 → InI z) ∧ p.2.length ≤ 60 := by
  obtain ⟨lv, ws, th, l, h1, h2, -⟩ := H
  have hl := h2.ag.len
  rw [List.length_map] at hl
  exact ⟨h2.few, h2.in_, hl, fun p hp => ⟨h2.ag.ini p.2 (List.mem_map.2 ⟨p, hp, rfl⟩), h2.ag.few p.2 (List.mem_map.2 ⟨p, hp, rfl⟩)⟩⟩
theorem Hs.thing (H : Hs w1 n1 W mm lb b sb g mb c x sw L fv Fa Fp n2 n3 n lsv m lr ls cv) {z : Int} (hz : thr L z = true) : 1 ≤ z ∧ z ≤ L.length := by
  obtain ⟨o, ho⟩ := thr_iff.1 hz
  obtain ⟨h1, h2, -⟩ := ob_some.1 ho
  have := (List.getElem?_eq_some_iff.1 h2).1
  omega

theorem Hs.right (H : Hs w1 n1 W mm lb b sb g mb c x sw L fv Fa Fa n2 n3 n lsv m ls ls cv) (ok : LOk c L) : Calls Tryd.prog 17 #[.pointer (some ⟨mm, 0, none⟩), lsv, fv] W fun e w' => e = .returned (.bool true) ∧ Below W.heap.size W w' := by
  have hf := H.few
  obtain ⟨lv, ws, th, l, h1, h2, h3, h4, h5, h6, -⟩ := H
  have hlen := ok.len
  exact right_yes h1.mm_ h1.ly ok h1.rm h2.sk (Lrd.own h5 h6) (fun z hz => by have := hf.2.1 z hz; unfold InI; omega) (by omega) h1.fd h2.ag h2.l_ h2.h_

theorem Hs.missing (H : Hs w1 n1 W mm lb b sb g mb c x sw L fv Fa Fp n2 n3 n lsv m lr ls true) : Calls Tryd.prog 15 #[.pointer (some ⟨sb, 0, none⟩)] W fun e w' => ∃ r : Int, e = .returned (.tuple #[.int .i64 r, .bool false]) ∧ Below W.heap.size W w' := by
  obtain ⟨lv, ws, th, l, h1, h2, h3, -⟩ := H
  refine (missing_any h1.rm).mono ?_
  rintro e w' ⟨r, d, rfl, hd, hb⟩
  rcases hd with ⟨rfl, rfl, -⟩ | ⟨rfl, pre, T, post, e, h8, -, -⟩
  · exact ⟨0, rfl, hb⟩
  · have := h2.nomiss (h3 rfl) h1.rm.bq.ax T (by rw [e]; simp)
    rw [this] at h8
    simp at h8

theorem Hs.young (H : Hs w1 n1 W mm lb b sb g mb c x sw L fv Fa Fp n2 n3 n lsv m lr ls cv) (ok : LOk c L) (z : Int) (hz : InI z) : Calls Tryd.prog 21 #[.pointer (some ⟨mm, 0, none⟩), .int .i64 z] W fun e w' => e = .returned (.bool (ynl L sw z)) ∧ Below W.heap.size W w' := by
  obtain ⟨lv, ws, th, l, h1, -⟩ := H
  exact young6_any h1.mm_ h1.ly h1.hn ok.len h1.rm.bq.ax.ar z hz

/-- Store where it may not be. -/
theorem Hs.err (H : Hs w1 n1 W mm lb b sb g mb c x sw L fv Fa Fa n2 n3 n lsv m lr ls cv) (oa f z : Int) (h : thr L oa = false ∨ (thr L oa = true ∧ ∃ p, Fa[(oa - 1).toNat]? = some p ∧ ¬ (0 ≤ f ∧ f < p.2.length))) :
    Calls Tryd.prog 20 #[.pointer (some ⟨sb, 0, none⟩), .int .i64 (plc L oa), .int .i64 f, .int .i64 z] W fun e w' => ∃ e0 : Int, e0 ≠ 0 ∧ e = .returned (.int .i64 e0) ∧ Below W.heap.size W w' := by
  obtain ⟨lv, ws, th, l, h1, h2, -⟩ := H
  rcases h with h | ⟨h, p, hp, hf⟩
  · rw [plc_none h]
    exact (store_bad 0 f z 60 (by decide) (fault_out h1.rm f z)).mono (fun e w' h => ⟨60, by decide, h⟩)
  · obtain ⟨o, ho⟩ := thr_iff.1 h
    obtain ⟨i, T, hi, hn, hm⟩ := h2.sk.find ho
    have hT := List.mem_of_getElem? hi
    have e : plc L oa = T.at_ := by rw [plc_some ho, hm.at_]
    rw [e]
    have hps := h2.ag.ps T hT p.2 (by rw [show T.no - 1 = (oa - 1).toNat from by omega, List.getElem?_map, hp]; rfl)
    have hl : T.ps.length = p.2.length := by rw [hps, List.length_map]
    exact (store_bad T.at_ f z 61 (by decide) (fault_field h1.rm hT f (by rw [hl]; exact hf) z)).mono (fun e w' h => ⟨61, by decide, h⟩)

/-- Store. -/
theorem Hs.store (H : Hs w1 n1 W mm lb b sb g mb c x sw L fv Fa Fa n2 n3 n lsv m ls ls true) (hlen : L.length ≤ 400) {jn f : Nat} {pr : Nat × List Int} {ot : Int} (ha : thr L ((jn : Int) + 1) = true) (hp : Fa[jn]? = some pr) (hf : f < pr.2.length) (hot : ot = 0 ∨ thr L ot = true) (hoi : InI ot) (hn : n ≤ 100000) :
    Calls Tryd.prog 20 #[.pointer (some ⟨sb, 0, none⟩), .int .i64 (plc L ((jn : Int) + 1)), .int .i64 f, .int .i64 (plc L ot)] W fun e w' => e = .returned (.int .i64 0) ∧ (∀ (q : Nat) (cs : Array Value), W.heap[q]? = some (.cells cs 53 (0, 0)) → w'.heap[q]? = W.heap[q]?) ∧ Hs w1 n1 w' mm lb b sb g mb c x sw L fv Fa (Fa.set jn (pr.1, pr.2.set f ot)) n2 n3 (n + 1) lsv m ls (if (t4 L ((jn : Int) + 1) && (ynl L sw ot && !decide ((jn : Int) + 1 ∈ ls))) = true then ls ++ [(jn : Int) + 1] else ls) true := by
  have hfew := H.few
  obtain ⟨lv, ws, th, l, h1, h2, h3, h4, h5, h6, h7, h8, h9⟩ := H
  obtain ⟨o, ho⟩ := thr_iff.1 ha
  obtain ⟨ti, T, hi, hTn, hm⟩ := h2.sk.find ho
  have hT := List.mem_of_getElem? hi
  have hno : T.no - 1 = jn := by omega
  have hnoI : (T.no : Int) = (jn : Int) + 1 := hTn
  have e : plc L ((jn : Int) + 1) = T.at_ := by rw [plc_some ho, hm.at_]
  have hps := h2.ag.ps T hT pr.2 (by rw [hno, List.getElem?_map, hp]; rfl)
  have hz : plc L ot = 0 ∨ ∃ U, U ∈ th ∧ U.at_ = plc L ot := by
    rcases hot with rfl | h
    · left
      cases hh : thr L 0
      · exact plc_none hh
      · obtain ⟨o', ho'⟩ := thr_iff.1 hh
        have := (ob_some.1 ho').1
        omega
    · obtain ⟨o', ho'⟩ := thr_iff.1 h
      obtain ⟨j, U, hU, -, hUm⟩ := h2.sk.find ho'
      exact .inr ⟨U, List.mem_of_getElem? hU, by rw [plc_some ho', hUm.at_]⟩
  have hll : l.length ≤ 100000 := by rw [h2.l_, List.length_map]; omega
  have hst := store_full h1.rm ti T hi f (by rw [hps, List.length_map]; exact hf) (plc L ot) hz hll hn
  rw [e]
  refine hst.mono ?_
  rintro ex w' ⟨rfl, t, lv', ws', hlv, hno', hyes⟩
  have hs := h2.stl_is h1.rm.bq.ax hT ot
  rw [hnoI, ← thing_t4 h2.sk hT, hnoI] at hs
  have hlv' : ∀ q, lv'.ownBlock = some q → lv.ownBlock = some q ∨ W.heap.size ≤ q := fun q hq => by
    rcases hlv with h | ⟨y, hy1, hy2⟩
    · exact .inl (h.symm.trans hq)
    · rw [hy1] at hq
      simp at hq
      subst hq
      exact .inr hy2
  have hdj : ∀ q, lv'.ownBlock = some q → lsv.ownBlock ≠ some q := fun q hq hq2 => by
    rcases hlv' q hq with h | h
    · exact h4 q h hq2
    · have := row_lt h5 q hq2
      omega
  have hrow := h1.mine t h5 (fun q hq hq2 => h4 q hq2 hq)
  refine ⟨rfl, fun q cs hq => t.block q (Array.getElem?_eq_some_iff.1 hq).1 (off_five (h1.off hq (by decide) (by decide) (by decide)) (row_ne hq h1.rm.rs.row (by decide))), ?_⟩
  cases hb : stl c sw l T.at_ (plc L ot)
  · rw [hb] at hs
    rw [if_neg (by rw [← hs]; simp)]
    obtain ⟨p1, p2⟩ := h2.store_no (f := f) (h3 rfl) h1.rm.bq.ax hi hp hno hps hoi hb
    exact ⟨lv', ws', _, l, (h1.touch t (hno' hb) hlv').mono (by omega), p1, fun _ => p2, hdj, hrow, h6, h7, h8, Nat.le_trans h9 t.size⟩
  · rw [hb] at hs
    rw [if_pos hs.symm]
    obtain ⟨p1, p2⟩ := h2.store_yes (f := f) (h3 rfl) h1.rm.bq.ax hi hp hno hps hoi hb
    rw [hnoI] at p1 p2
    exact ⟨lv', ws', _, _, h1.touch t (hyes hb) hlv', p1, fun _ => p2, hdj, hrow, h6, h7, h8, Nat.le_trans h9 t.size⟩

/-- The field is written. -/
theorem Hs.field (H : Hs w1 n1 W mm lb b sb g mb c x sw L fv Fa Fp n2 n3 n lsv m lr ls cv) {i : Nat} {p : Nat × List Int} (hp : Fa[i]? = some p) (l' : List Int) (t : Touch [p.1] W W') (hc : W'.heap[p.1]? = some (.cells (ints l').toArray 3 (0, 0))) (hl : l'.length = p.2.length) : Hs w1 n1 W' mm lb b sb g mb c x sw L fv (Fa.set i (p.1, l')) Fp n2 n3 n lsv m lr ls cv := by
  obtain ⟨lv, ws, th, l, h1, h2, h3, h4, h5, h6, h7, h8, h9⟩ := H
  have hm := List.mem_of_getElem? hp
  refine ⟨lv, ws, th, l, h1.field hp l' t hc hl, h2, h3, h4, row_keep h5 (fun q hq => t.block q (row_lt h5 q hq) ?_), h6, fun q hq => ?_, h8, Nat.le_trans h9 t.size⟩
  · have h10 := (own_low h5 hq).1
    have := h7 p hm
    simp only [List.mem_cons, List.not_mem_nil, or_false]
    omega
  · rcases List.mem_or_eq_of_mem_set hq with h | rfl
    · exact h7 q h
    · exact h7 p hm

/-- The list grows. -/
theorem Hs.grow (H : Hs w1 n1 W mm lb b sb g mb c x sw L fv Fa Fp n2 n3 n lsv m lr ls cv) {o : Obj} {v' : Value} {lr' : List Int} (hg : (W.alloc o).grownBy W' lsv.ownBlock) (ho : W'.ownsRow n3 3 1 v' (m + 1) (ints lr')) (hl : m + 1 = lr'.length) (hat : v'.ownBlock = lsv.ownBlock ∨ v'.ownBlock = some (W.alloc o).heap.size) : Hs w1 n1 W' mm lb b sb g mb c x sw L fv Fa Fp n2 n3 n v' (m + 1) lr' ls cv := by
  obtain ⟨lv, ws, th, l, h1, h2, h3, h4, h5, h6, h7, h8, h9⟩ := H
  have hs : W.heap.size ≤ W'.heap.size := by
    have := hg.size
    simp at this
    omega
  have t : Touch lsv.ownBlock.toList W W' := ⟨hg.os, hg.tape, hg.output, hs, fun k hk hne => by
    rw [hg.block k (by simp; omega) (fun e => hne (by rw [← e]; simp))]
    exact Below.heap_alloc _ _ _ hk⟩
  refine ⟨lv, ws, th, l, h1.list t (fun q hq => ?_) h7 h8, h2, h3, fun q hq hq2 => ?_, ho, hl, h7, h8, Nat.le_trans h9 hs⟩
  · have hq' : lsv.ownBlock = some q := by
      cases e : lsv.ownBlock with
      | none => rw [e] at hq; simp at hq
      | some y => rw [e] at hq; simp at hq; rw [hq]
    obtain ⟨q1, q2⟩ := own_low h5 hq'
    exact ⟨q1, q2, fun e => h4 q e hq'⟩
  · rcases hat with h | h
    · exact h4 q hq (h.symm.trans hq2)
    · rw [h] at hq2
      have := row_lt h1.rm.rs.row q hq
      simp at hq2
      omega

/-- Swap. -/
theorem Hs.swap (H : Hs w1 n1 W mm lb b sb g mb c x sw L fv Fa Fp n2 n3 n lsv m lr ls cv) : Calls Tryd.prog 23 #[.pointer (some ⟨b, 0, none⟩)] W fun e w' => e = .returned (.tuple #[]) ∧ Hs w1 n1 w' mm lb b sb g mb c x (!sw) L fv Fa Fp n2 n3 n lsv m lr ls false := by
  obtain ⟨lv, ws, th, l, h1, h2, h3, h4, h5, h6, h7, h8, h9⟩ := H
  refine (swap_any b g c x sw ws W h1.rm.bq.ax.ar).mono ?_
  rintro e w' ⟨rfl, hA, t, -⟩
  have t2 : Touch [b, g] W w' := t.wide (fun y hy => by simp only [List.mem_cons, List.not_mem_nil, or_false] at hy; simp [hy])
  have t4 : Touch [sb, mb, b, g] W w' := t.wide (fun y hy => by simp only [List.mem_cons, List.not_mem_nil, or_false] at hy; simp [hy])
  exact ⟨rfl, lv, ws, th, l, h1.touch (touch_five t4) (h1.rm.next t2 hA h1.rm.bq.ax.hl) (fun q hq => .inl hq), h2, fun h => by simp at h, h4, h1.keep4 t4 h5, h6, h7, h8, Nat.le_trans h9 t.size⟩

/-- prunes. -/
theorem Hs.prunes (H : Hs w1 n1 W mm lb b sb g mb c x sw L fv Fa Fa n2 n3 n lsv m ls ls cv) (ok : LOk c L) (hn : n ≤ 50000) : Calls Tryd.prog 24 #[.pointer (some ⟨mm, 0, none⟩), lsv, fv] W fun e w' => ∃ v' m' ls', e = .returned v' ∧ Hs w1 n1 w' mm lb b sb g mb c x sw L fv Fa Fa n2 n3 (n + 20000) v' m' ls' ls' true := by
  have hfew := H.few
  have hlen := ok.len
  obtain ⟨lv, ws, th, l, h1, h2, h3, h4, h5, h6, h7, h8, h9⟩ := H
  have hll : l.length ≤ 400 := by rw [h2.l_, List.length_map]; omega
  refine (prunes_any h1 ok h2.sk hfew.2.2.1 hfew.2.2.2 (Lrd.own h5 h6) hfew.2.1 (by omega) h2.things hll hn).mono ?_
  rintro e w' ⟨v', rfl, t, hrow, lv', ws', n', hlv, hR, hn'⟩
  have hD : (dsn L L.length L.length).Nodup := dsn_nodup L _ _ (Nat.le_refl _)
  have ht : ∀ z, z ∈ dsn L L.length L.length → t4 L z = true := fun z hz => (dsn_mem L _ _ (Nat.le_refl _) z hz).2.2
  obtain ⟨p1, p2⟩ := h2.renew h1.rm.bq.ax hD ht (fun T hT hq => .inr (dsn_all L _ (by have := h2.sk.le hT; omega) (by have := h2.sk.le hT; omega) (by
    rw [thing_t4 h2.sk hT]
    unfold q4T at hq
    simp only [Bool.and_eq_true] at hq
    exact hq.1))) (fun a => decide (a ∈ l))
  have hR2 := hR.congr (S' := fun a => decide (a ∈ (ded (l ++ moreN L L.length 0)).filter (hta c sw th))) (fun a _ => ren_set _ _ _ a)
  exact ⟨v', _, _, rfl, lv', ws', _, _, (h1.touch (touch_five t) hR2 (fun q hq => .inr (hlv q hq).1)).mono hn', p1, fun _ => p2, fun q hq => (hlv q hq).2, own_base hrow h9, rfl, h7, h8, Nat.le_trans h9 t.size⟩

/-- pruned. -/
theorem Hs.pruned (H : Hs w1 n1 W mm lb b sb g mb c x sw L fv Fa Fa n2 n3 n lsv m ls ls cv) (ok : LOk c L) : Calls Tryd.prog 25 #[.pointer (some ⟨mm, 0, none⟩), lsv, fv] W fun e w' => ∃ v' m', e = .returned v' ∧ Hs w1 n1 w' mm lb b sb g mb c x sw L fv Fa Fa n2 n3 n v' m' (ls.filter (hN L sw Fa)) ls cv := by
  have hfew := H.few
  have hlen := ok.len
  obtain ⟨lv, ws, th, l, h1, h2, h3, h4, h5, h6, h7, h8, h9⟩ := H
  refine (pruned_any h1.mm_ h1.ly h1.hn hlen h1.rm.bq.ax.ar (Lrd.own h5 h6) hfew.2.1 (by omega) h1.fd hfew.2.2.1 hfew.2.2.2).mono ?_
  rintro e w' ⟨v', rfl, hrow, bl⟩
  refine ⟨v', _, rfl, lv, ws, th, l, h1.below bl, h2, h3, fun q hq hq2 => ?_, own_base hrow h9, rfl, h7, h8, Nat.le_trans h9 bl.size⟩
  have h10 := (own_low hrow hq2).1
  have := row_lt h1.rm.rs.row q hq
  omega

/-- Prune. -/
theorem Hs.prune (H : Hs w1 n1 W mm lb b sb g mb c x sw L fv Fa Fa n2 n3 n lsv m lr ls true) (hlen : L.length ≤ 400) (hn : n ≤ 100000) : Calls Tryd.prog 18 #[.pointer (some ⟨sb, 0, none⟩), .slice none 0 0] W fun e w' => e = .returned (.tuple #[]) ∧ Hs w1 n1 w' mm lb b sb g mb c x sw L fv Fa Fa n2 n3 (n + 20000) lsv m lr (ls.filter (hN L sw Fa)) true := by
  have hfew := H.few
  obtain ⟨lv, ws, th, l, h1, h2, h3, h4, h5, h6, h7, h8, h9⟩ := H
  have hll : l.length ≤ 400 := by rw [h2.l_, List.length_map]; omega
  have hp := prune_full h1.rm (.slice none 0 0) [] ⟨none, 0, rfl, Nat.le_refl _, fun f z hz => by simp at hz⟩ h2.things (fun a ha => by simp at ha) (by omega) (by simp) hn
  refine hp.mono ?_
  rintro e w' ⟨rfl, t, lv', ws', n', hlv, hR, hn'⟩
  obtain ⟨p1, p2⟩ := h2.renew (D := []) h1.rm.bq.ax List.nodup_nil (fun z hz => by simp at hz) (fun T hT hq => .inl (h3 rfl T hT hq)) (fun a => decide (a ∈ l))
  have hR2 := hR.congr (S' := fun a => decide (a ∈ (ded (l ++ [])).filter (hta c sw th))) (fun a _ => ren_set _ _ _ a)
  have er : renN (hN L sw Fa) ls [] = ls.filter (hN L sw Fa) := by simp [renN]
  rw [er] at p1 p2
  exact ⟨rfl, lv', ws', _, _, (h1.touch (touch_five t) hR2 (fun q hq => .inr (hlv q hq))).mono hn', p1, fun _ => p2, fun q hq hq2 => by
    have := row_lt h5 q hq2
    have := hlv q hq
    omega, h1.keep4 t h5, h6, h7, h8, Nat.le_trans h9 t.size⟩
end

end Go.Proofs.YtfihjmoaibmllaaDoor

/-
  RemsetHolds: a plan whose things have lost their pointers.
-/
set_option linter.unusedVariables false
set_option maxRecDepth 20000
namespace Go.Proofs.YtfihjmoaibmllaaDoor
open Go.RowKit Go.Shelf

set_option maxHeartbeats 8000000 in
theorem unheld_full (c : Cfg) (v : Value) (P : List LT) (n0 : Nat) (w : World) (hn0 : n0 ≤ w.heap.size) (hv : Prd n0 w v P) (hl : P.length ≤ 1172812402961) :
    Calls Tryd.prog 7 #[pv c v] w fun e w' => ∃ a m, e = .returned (pv c (.slice a P.length m)) ∧ w'.ownsRow 0 51 11 (.slice a P.length m) P.length (lflat (P.map unh)) ∧ Below w.heap.size w w' ∧ ∀ y, (Value.slice a P.length m).ownBlock = some y → w.heap.size ≤ y := by
  obtain ⟨a0, cap0, rfl, hP⟩ := hv
  have HP : Hid (Prd n0 w (.slice a0 P.length cap0) P) := ⟨a0, cap0, rfl, hP⟩
  obtain ⟨i0, hi0, hz0, hz1, hz2⟩ := info_parts Tryd.infoThing
  have HI : Hid (Tryd.prog.info? 51 = some i0 ∧ i0.zero = some (.agg (lcells 0 0 0 0 0 0 0 false (.slice none 0 0) (.slice none 0 0) 0)) ∧ i0.size = 11 ∧ i0.bytes = 120) := ⟨hi0, hz0, hz1, hz2⟩
  clear hi0 hz0 hz1 hz2 hP
  go_enter Tryd.func7, Tryd.ntmps7
  go_upto_region 2 with fail
  obtain ⟨B, hB⟩ : ∃ B, B = w.heap.size := ⟨_, rfl⟩
  have p0 := ((Pd.new w c (.slice a0 P.length cap0)).below (Below.alloc (Below.refl _ _) (Nat.le_refl _) (.cells (pcells zcf (.slice none 0 0)) 26))).below (Below.alloc (Below.refl _ _) (Nat.le_refl _) (.cells (pcells c (.slice none 0 0)) 26))
  have p1 := (Pd.new (w.alloc (.cells (pcells c (.slice a0 P.length cap0)) 26)) zcf (.slice none 0 0)).below (Below.alloc (Below.refl _ _) (Nat.le_refl _) (.cells (pcells c (.slice none 0 0)) 26))
  have p2 := Pd.new ((w.alloc (.cells (pcells c (.slice a0 P.length cap0)) 26)).alloc (.cells (pcells zcf (.slice none 0 0)) 26)) c (.slice none 0 0)
  have l0 : Below w.heap.size w (((w.alloc (.cells (pcells c (.slice a0 P.length cap0)) 26)).alloc (.cells (pcells zcf (.slice none 0 0)) 26)).alloc (.cells (pcells c (.slice none 0 0)) 26)) := (((Below.refl _ w).alloc (Nat.le_refl _) _).alloc (by simp) _).alloc (by simp; omega) _
  simp only [World.size_alloc] at p1 p2
  obtain ⟨W0, hW0⟩ : ∃ W0, W0 = (((w.alloc (.cells (pcells c (.slice a0 P.length cap0)) 26)).alloc (.cells (pcells zcf (.slice none 0 0)) 26)).alloc (.cells (pcells c (.slice none 0 0)) 26)) := ⟨_, rfl⟩
  rw [← hW0] at p0 p1 p2 l0
  rw [← hB] at p0 p1 p2
  show Code.wp _ _ _ _ (((w.alloc (.cells (pcells c (.slice a0 P.length cap0)) 26)).alloc (.cells (pcells zcf (.slice none 0 0)) 26)).alloc (.cells (pcells c (.slice none 0 0)) 26))
  rw [← hW0, ← hB]
  have HP0 : Hid (Pd W0 B c (.slice a0 P.length cap0)) := p0
  have HP1 : Hid (Pd W0 (B + 1) zcf (.slice none 0 0)) := p1
  have HP2 : Hid (Pd W0 (B + 1 + 1) c (.slice none 0 0)) := p2
  have HL0 : Hid (Below w.heap.size w W0) := l0
  have HB : Hid (B = w.heap.size) := hB
  clear p0 p1 p2 l0 hW0 hB
  go_wp2
  go_loopw [4] (fun v4 wr => ∃ k : Nat, k ≤ P.length ∧ v4 = .int .i64 k ∧ ∃ qv, Hid (Pd wr B c (.slice a0 P.length cap0)) ∧ Hid (Pd wr (B + 1) zcf (.slice none 0 0)) ∧ Hid (Pd wr (B + 1 + 1) c qv) ∧ Hid (wr.ownsRow 0 51 11 qv k (lflat ((P.take k).map unh))) ∧ Hid (Below w.heap.size w wr) ∧ Hid (∀ y, qv.ownBlock = some y → w.heap.size ≤ y)) (fun v4 _ => P.length - (intOf v4).toNat)
  case atStart => exact ⟨0, Nat.zero_le _, rfl, _, HP0, HP1, HP2, World.ownsRow_nil _ _ _ _, HL0, (fun y hy => by simp [Value.ownBlock] at hy : ∀ y, (Value.slice none 0 0).ownBlock = some y → w.heap.size ≤ y)⟩
  case round =>
    obtain ⟨k, hk, rfl, qv, H0, H1, H2, Hrow, Hbe, Hfr⟩ := hrel
    clear HP0 HP1 HP2 HL0
    have e14 : wr.cell? ⟨B, 14, none⟩ = some (.slice a0 P.length cap0) := H0.out.cell 14
    by_cases hkl : k < P.length
    · have ho : P[k]? = some (P[k]'hkl) := List.getElem?_eq_getElem hkl
      generalize P[k]'hkl = T at ho
      obtain ⟨a9, cap9, e9, hP⟩ := HP.out.below (Hbe.out.mono hn0)
      obtain ⟨hIn, ⟨p1, p3, hvp, -, -⟩, ⟨r1, r3, hvr, -, -⟩, q, off, e8, hq, cs⟩ := hP k T ho
      simp only [Value.slice.injEq] at e9
      obtain ⟨e91, -⟩ := e9
      rw [← e91] at e8
      subst e8
      have Htk : Hid (P.take (k + 1) = P.take k ++ [T]) := by show _ = _; rw [List.take_add_one, ho]; rfl
      have d0 : wr.cell? ⟨q, off + k * 11, none⟩ = some (.int .i64 T.sp) := cs 0 (by decide)
      have d1 : wr.cell? ⟨q, off + k * 11 + 1, none⟩ = some (.int .u64 T.s) := cs 1 (by decide)
      have d2 : wr.cell? ⟨q, off + k * 11 + 2, none⟩ = some (.int .i64 T.k) := cs 2 (by decide)
      have d3 : wr.cell? ⟨q, off + k * 11 + 3, none⟩ = some (.int .i64 T.p) := cs 3 (by decide)
      have d4 : wr.cell? ⟨q, off + k * 11 + 4, none⟩ = some (.int .i64 T.r) := cs 4 (by decide)
      have d5 : wr.cell? ⟨q, off + k * 11 + 5, none⟩ = some (.int .i64 T.a) := cs 5 (by decide)
      have d6 : wr.cell? ⟨q, off + k * 11 + 6, none⟩ = some (.int .i64 T.t) := cs 6 (by decide)
      have d7 : wr.cell? ⟨q, off + k * 11 + 7, none⟩ = some (.bool T.h) := cs 7 (by decide)
      have d8 : wr.cell? ⟨q, off + k * 11 + 8, none⟩ = some (.slice p1 T.ps.length p3) := by rw [← hvp]; exact cs 8 (by decide)
      have d9 : wr.cell? ⟨q, off + k * 11 + 9, none⟩ = some (.slice r1 T.rs.length r3) := by rw [← hvr]; exact cs 9 (by decide)
      have d10 : wr.cell? ⟨q, off + k * 11 + 10, none⟩ = some (.int .i64 T.fill) := cs 10 (by decide)
      have hcells : (unh T).cells = lcells T.sp T.s T.k T.p T.r T.a T.t false (.slice p1 T.ps.length p3) (.slice r1 T.rs.length r3) T.fill := by
        show lcells T.sp T.s T.k T.p T.r T.a T.t false T.vp T.vr T.fill = _
        rw [hvp, hvr]
      have Hcells : Hid ((unh T).cells = lcells T.sp T.s T.k T.p T.r T.a T.t false (.slice p1 T.ps.length p3) (.slice r1 T.rs.length r3) T.fill) := hcells
      have hkI : (k : Int) < (P.length : Int) := by omega
      clear cs ho hP hvp hvr hcells hIn e91
      go_upto_region 7 with fail
      clear d0 d1 d2 d3 d4 d5 d6 d7 d8 d9 d10
      have lv0 : Below wr.heap.size wr (wr.alloc (.cells (lcells T.sp T.s T.k T.p T.r T.a T.t false (.slice p1 T.ps.length p3) (.slice r1 T.rs.length r3) T.fill) 51)) := Below.alloc (Below.refl _ _) (Nat.le_refl _) _
      have hR : (wr.alloc (.cells (lcells T.sp T.s T.k T.p T.r T.a T.t false (.slice p1 T.ps.length p3) (.slice r1 T.rs.length r3) T.fill) 51)).heap[wr.heap.size]? = some (.cells (lcells T.sp T.s T.k T.p T.r T.a T.t false (.slice p1 T.ps.length p3) (.slice r1 T.rs.length r3) T.fill) 51 (0, 0)) := heap_alloc_new wr _
      have H0' : Hid (Pd (wr.alloc (.cells (lcells T.sp T.s T.k T.p T.r T.a T.t false (.slice p1 T.ps.length p3) (.slice r1 T.rs.length r3) T.fill) 51)) B c (.slice (some ⟨q, off, none⟩) P.length cap0)) := H0.out.below lv0
      have H1' : Hid (Pd (wr.alloc (.cells (lcells T.sp T.s T.k T.p T.r T.a T.t false (.slice p1 T.ps.length p3) (.slice r1 T.rs.length r3) T.fill) 51)) (B + 1) zcf (.slice none 0 0)) := H1.out.below lv0
      have H2' : Hid (Pd (wr.alloc (.cells (lcells T.sp T.s T.k T.p T.r T.a T.t false (.slice p1 T.ps.length p3) (.slice r1 T.rs.length r3) T.fill) 51)) (B + 1 + 1) c qv) := H2.out.below lv0
      have Hrow' : Hid ((wr.alloc (.cells (lcells T.sp T.s T.k T.p T.r T.a T.t false (.slice p1 T.ps.length p3) (.slice r1 T.rs.length r3) T.fill) 51)).ownsRow 0 51 11 qv k (lflat ((P.take k).map unh))) := row_keep Hrow.out (fun y hy => lv0.block y (row_lt Hrow.out y hy))
      have Hbe' : Hid (Below w.heap.size w (wr.alloc (.cells (lcells T.sp T.s T.k T.p T.r T.a T.t false (.slice p1 T.ps.length p3) (.slice r1 T.rs.length r3) T.fill) 51))) := Hbe.out.trans (lv0.mono Hbe.out.size)
      obtain ⟨v, hv⟩ : ∃ v, v = wr.alloc (.cells (lcells T.sp T.s T.k T.p T.r T.a T.t false (.slice p1 T.ps.length p3) (.slice r1 T.rs.length r3) T.fill) 51) := ⟨_, rfl⟩
      obtain ⟨R, hRR⟩ : ∃ R, R = wr.heap.size := ⟨_, rfl⟩
      rw [← hv] at hR H0' H1' H2' Hrow' Hbe' ⊢
      rw [← hRR] at hR ⊢
      clear hv hRR lv0 H0 H1 H2 Hrow Hbe e14
      have d0 : v.cell? ⟨R, 0, none⟩ = some (.int .i64 T.sp) := cell_of_row _ _ 0 _ _ _ hR
      have d1 : v.cell? ⟨R, 1, none⟩ = some (.int .u64 T.s) := cell_of_row _ _ 1 _ _ _ hR
      have d2 : v.cell? ⟨R, 2, none⟩ = some (.int .i64 T.k) := cell_of_row _ _ 2 _ _ _ hR
      have d3 : v.cell? ⟨R, 3, none⟩ = some (.int .i64 T.p) := cell_of_row _ _ 3 _ _ _ hR
      have d4 : v.cell? ⟨R, 4, none⟩ = some (.int .i64 T.r) := cell_of_row _ _ 4 _ _ _ hR
      have d5 : v.cell? ⟨R, 5, none⟩ = some (.int .i64 T.a) := cell_of_row _ _ 5 _ _ _ hR
      have d6 : v.cell? ⟨R, 6, none⟩ = some (.int .i64 T.t) := cell_of_row _ _ 6 _ _ _ hR
      have d7 : v.cell? ⟨R, 7, none⟩ = some (.bool false) := cell_of_row _ _ 7 _ _ _ hR
      have d8 : v.cell? ⟨R, 8, none⟩ = some (.slice p1 T.ps.length p3) := cell_of_row _ _ 8 _ _ _ hR
      have d9 : v.cell? ⟨R, 9, none⟩ = some (.slice r1 T.rs.length r3) := cell_of_row _ _ 9 _ _ _ hR
      have d10 : v.cell? ⟨R, 10, none⟩ = some (.int .i64 T.fill) := cell_of_row _ _ 10 _ _ _ hR
      obtain ⟨a6, n6, c6, rfl⟩ := row_slice Hrow'.out
      have e14 : v.cell? ⟨B + 1 + 1, 14, none⟩ = some (.slice a6 n6 c6) := H2'.out.cell 14
      clear hR
      go_wp2_with (at_builtin; refine wpList_append_own_at _ rfl _ _ 24 rfl 0 51 i0 (.agg (lcells 0 0 0 0 0 0 0 false (.slice none 0 0) (.slice none 0 0) 0)) 11 120 Tryd.underlying24 HI.out.1 HI.out.2.1 HI.out.2.2.1 HI.out.2.2.2 rfl (by decide) _ _ _ rfl (Hrow'.out.alloc _) ⟨v.heap.size, 0, none⟩ 1 1 (lcells T.sp T.s T.k T.p T.r T.a T.t false (.slice p1 T.ps.length p3) (.slice r1 T.rs.length r3) T.fill).toList rfl rfl (cells_new _ _ _) (by simp [Value.oneCell']) (by simp [maxLen]; omega) (by omega) (by omega) ?_; intro v' w3 hown' hgrow _ hat; have hs3 := grow_plan hgrow H2'.out Hrow'.out; have c14 := hs3.cell 14; have f14 := hs3.frozen 14; obtain ⟨a7, c7, rfl⟩ := own_sl hown')
      have g0 := grow_plan hgrow H0'.out Hrow'.out
      have g1 := grow_plan hgrow H1'.out Hrow'.out
      have nsb : ∀ b' c' u', Pd w3 b' c' u' → b' ≠ B + 1 + 1 → Pd (w3.setCell ⟨B + 1 + 1, 14, none⟩ (.slice a7 (k + 1) c7)) b' c' u' := fun b' c' u' h hne => ⟨(Below.heap_setCell _ _ _ _ hne).trans h.at_⟩
      have r0 := nsb _ _ _ g0 (by omega)
      have r1' := nsb _ _ _ g1 (by omega)
      have r2 := hs3.set (.slice a7 (k + 1) c7)
      have hrow3 : w3.ownsRow 0 51 11 (.slice a7 (k + 1) c7) (k + 1) (lflat ((P.take (k + 1)).map unh)) := by
        rw [Htk.out, List.map_append, List.map_cons, List.map_nil, lflat_snoc, Hcells.out]
        exact hown'
      have hne3 : ∀ y, (Value.slice a7 (k + 1) c7).ownBlock = some y → y ≠ B + 1 + 1 := fun y hy e => row_ne hs3.at_ hown' (by decide) (by rw [← e]; exact hy.symm)
      have hrow4 := row_keep hrow3 (w' := w3.setCell ⟨B + 1 + 1, 14, none⟩ (.slice a7 (k + 1) c7)) (fun y hy => Below.heap_setCell _ _ _ _ (hne3 y hy))
      have hbe3 : Below w.heap.size w w3 := (Hbe'.out.alloc Hbe'.out.size _).grown hgrow (by have := Hbe'.out.size; simp; omega) (fun y hy => Hfr.out y hy)
      have hbe4 : Below w.heap.size w (w3.setCell ⟨B + 1 + 1, 14, none⟩ (.slice a7 (k + 1) c7)) := Below.setCell (p := ⟨B + 1 + 1, 14, none⟩) hbe3 (by have := HB.out; simp only; omega) _
      have hfr4 : ∀ y, (Value.slice a7 (k + 1) c7).ownBlock = some y → w.heap.size ≤ y := fun y hy => by
        rcases hat with h | h
        · exact Hfr.out y (h.symm.trans hy)
        · rw [h] at hy
          have := Hbe'.out.size
          simp at hy
          omega
      go_roundw
      case rel => exact ⟨k + 1, by omega, by go_num, _, r0, r1', r2, hrow4, hbe4, hfr4⟩
      case measure => simp [intOf]; omega
    · have hke : k = P.length := by omega
      have hkn : ¬ (k : Int) < (P.length : Int) := by omega
      obtain ⟨a6, n6, c6, hqv⟩ := row_slice Hrow.out
      obtain ⟨a5, c5, hqv5⟩ := own_sl Hrow.out
      subst hqv5
      have Hr : Hid (wr.ownsRow 0 51 11 (.slice a5 P.length c5) P.length (lflat (P.map unh))) := by
        have := Hrow.out
        rw [hke, List.take_length] at this
        exact this
      have H2b : Hid (Pd wr (B + 1 + 1) c (.slice a5 P.length c5)) := by
        have := H2.out
        rw [hke] at this
        exact this
      have o1 := H1.out
      have o2 := H2b.out
      clear H2 Hrow hqv
      rw [hke] at *
      go_upto_region 8 with fail
      go_wp2_with (first | (refine wpList_load_row rfl 26 _ rfl (B + 1 + 1) rfl 26 _ (0, 0) _ o2.at_ Tryd.underlying26 rfl pinfo ?_) | (refine wpList_store_row rfl 26 _ _ rfl (B + 1) (pcells c (.slice a5 P.length c5)) rfl rfl 26 (pcells zcf (.slice none 0 0)) o1.at_ pinfo rfl (by kernel_rfl) ?_))
      have o3 : Pd (wr.setRow (B + 1) (pcells c (.slice a5 P.length c5))) (B + 1) c (.slice a5 P.length c5) := ⟨setRow_heap _ _ _ _ _ _ o1.at_⟩
      have b4 : Below w.heap.size w (wr.setRow (B + 1) (pcells c (.slice a5 P.length c5))) := below_setRow Hbe.out (by have := HB.out; omega) _
      have hr4 : (wr.setRow (B + 1) (pcells c (.slice a5 P.length c5))).ownsRow 0 51 11 (.slice a5 P.length c5) P.length (lflat (P.map unh)) := row_keep Hr.out (fun y hy => setRow_other _ _ _ _ (fun e => row_ne o1.at_ Hr.out (by decide) (by rw [← e]; exact hy.symm)))
      refine bodyPost_ret (results_cell1 Tryd.results7 rfl o3.load) rfl ?_
      exact ⟨a5, c5, rfl, hr4, b4, fun y hy => Hfr.out y hy⟩

theorem own_setCell {w : World} {base e size n cap g : Nat} {xs : List Value} (h : w.ownsRow base e size (.slice (some ⟨g, 0, none⟩) n cap) n xs) {m : Nat} (hm : m < n * size) (u : Value) : (w.setCell ⟨g, m, none⟩ u).ownsRow base e size (.slice (some ⟨g, 0, none⟩) n cap) n (xs.set m u) := by
  refine ⟨by rw [List.length_set]; exact h.1, ?_⟩
  rcases h.2 with ⟨e1, -⟩ | ⟨g', cap', cur, e1, h2, h3, h4, h5, h6, h7⟩
  · simp at e1
  · simp only [Value.slice.injEq, Option.some.injEq, Addr.mk.injEq, and_true, true_and] at e1
    obtain ⟨rfl, rfl⟩ := e1
    refine .inr ⟨g, cap, cur.setIfInBounds m u, rfl, h2, ?_, h4, h5, by rw [Array.size_setIfInBounds]; exact h6, ?_⟩
    · rw [setCell_eq_setRow _ _ _ _ _ _ _ h3]
      exact setRow_heap _ _ _ _ _ _ h3
    · rw [Array.toList_setIfInBounds, List.take_set, h7]

theorem lflat_set8 : ∀ (Q : List LT) (i : Nat) (T T' : LT) (v : Value), Q[i]? = some T → T'.cells.toList = T.cells.toList.set 8 v → lflat (Q.set i T') = (lflat Q).set (i * 11 + 8) v
  | [], i, T, T', v, h, _ => by simp at h
  | U :: Q, 0, T, T', v, h, hc => by
    simp at h
    subst h
    have e1 : lflat (T' :: Q) = T'.cells.toList ++ lflat Q := by simp [lflat]
    have e2 : lflat (U :: Q) = U.cells.toList ++ lflat Q := by simp [lflat]
    rw [List.set_cons_zero, e1, e2, hc, List.set_append_left _ _ (by simp)]
  | U :: Q, i + 1, T, T', v, h, hc => by
    have ih := lflat_set8 Q i T T' v (by simpa using h) hc
    have e1 : lflat (U :: Q.set i T') = U.cells.toList ++ lflat (Q.set i T') := by simp [lflat]
    have e2 : lflat (U :: Q) = U.cells.toList ++ lflat Q := by simp [lflat]
    have l1 : U.cells.toList.length = 11 := rfl
    rw [List.set_cons_succ, e1, e2, ih, List.set_append_right _ _ (by rw [l1]; omega), l1, show (i + 1) * 11 + 8 - 11 = i * 11 + 8 from by omega]

/-- A cell that holds no number is none of a list's. -/
theorem Lrd.setCell {n0 : Nat} {w : World} {v : Value} {k : IntKind} {l : List Int} (h : Lrd n0 w v k l) {a : Addr} {u0 : Value} (hc : w.cell? a = some u0) (hu : ∀ z, u0 ≠ .int k z) (u : Value) : Lrd n0 (w.setCell a u) v k l := by
  obtain ⟨ad, cap, h1, h2, h3⟩ := h
  refine ⟨ad, cap, h1, h2, fun f z hz => ?_⟩
  obtain ⟨q, off, e1, e2, e3⟩ := h3 f z hz
  refine ⟨q, off, e1, e2, ?_⟩
  rw [World.cell?_setCell_other _ _ _ _ (fun e => by
    rw [e, e3] at hc
    simp at hc
    exact hu z hc.symm)]
  exact e3

/-- The thing without its pointers. -/
abbrev nops (o : LT) (v : Value) : LT := { unh o with vp := v, ps := List.replicate o.ps.length 0 }

/-- The things, the first k without their pointers. -/
structure Em (w : World) (v : Value) (P Q : List LT) (k : Nat) : Prop where
  row : w.ownsRow 0 51 11 v Q.length (lflat Q)
  len : Q.length = P.length
  old : ∀ (i : Nat) o, P[i]? = some o → k ≤ i → Q[i]? = some (unh o)
  new : ∀ (i : Nat) o, P[i]? = some o → i < k → ∃ u, Q[i]? = some (nops o u)
  rd : ∀ T, T ∈ Q → Lrd w.heap.size w T.vp .i64 T.ps ∧ Lrd w.heap.size w T.vr .u64 T.rs

section
variable {w w' : World} {v : Value} {P Q : List LT} {k : Nat}

theorem Em.below (H : Em w v P Q k) (l : Below w.heap.size w w') : Em w' v P Q k :=
  ⟨row_keep H.row (fun y hy => l.block y (row_lt H.row y hy)), H.len, H.old, H.new, fun T hT => ⟨((H.rd T hT).1.below l).mono l.size, ((H.rd T hT).2.below l).mono l.size⟩⟩

theorem Em.start (h : w.ownsRow 0 51 11 v (P.map unh).length (lflat (P.map unh))) (hr : ∀ o, o ∈ P → Lrd w.heap.size w o.vp .i64 o.ps ∧ Lrd w.heap.size w o.vr .u64 o.rs) : Em w v P (P.map unh) 0 :=
  ⟨h, List.length_map _, fun i o ho _ => by rw [List.getElem?_map, ho]; rfl, fun i o _ h => by omega, fun T hT => by
    obtain ⟨o, ho, rfl⟩ := List.mem_map.1 hT
    exact hr o ho⟩

/-- The next one's are written. -/
theorem Em.next (H : Em w v P Q k) {g cap : Nat} (hv : v = .slice (some ⟨g, 0, none⟩) Q.length cap) {o : LT} (ho : P[k]? = some o) {u : Value} (hu : Lrd w.heap.size w u .i64 (List.replicate o.ps.length 0)) : Em (w.setCell ⟨g, k * 11 + 8, none⟩ u) v P (Q.set k (nops o u)) (k + 1) := by
  have hQ := H.old k o ho (Nat.le_refl _)
  have hkl := (List.getElem?_eq_some_iff.1 hQ).1
  have hs : (w.setCell ⟨g, k * 11 + 8, none⟩ u).heap.size = w.heap.size := by simp [World.setCell]
  obtain ⟨p1, p3, hvp, -, -⟩ := (H.rd _ (List.mem_of_getElem? hQ)).1
  have hcell : w.cell? ⟨g, k * 11 + 8, none⟩ = some (.slice p1 (unh o).ps.length p3) := by
    rcases H.row.2 with ⟨e1, -⟩ | ⟨g', cap', cur, e1, -, h3, -, -, -, h7⟩
    · rw [hv] at e1; simp at e1
    · rw [hv] at e1
      simp only [Value.slice.injEq, Option.some.injEq, Addr.mk.injEq, and_true, true_and] at e1
      obtain ⟨rfl, rfl⟩ := e1
      have h8 := lflat_at Q k (unh o) 8 hQ (by decide)
      rw [← h7, List.getElem?_take, if_pos (by omega)] at h8
      rw [cell_of_row _ _ _ _ _ _ h3, ← Array.getElem?_toList, h8, ← hvp]
      rfl
  have key : ∀ {k' : IntKind} {v' : Value} {l : List Int}, Lrd w.heap.size w v' k' l → Lrd (w.setCell ⟨g, k * 11 + 8, none⟩ u).heap.size (w.setCell ⟨g, k * 11 + 8, none⟩ u) v' k' l := fun {k' v' l} h => by
    rw [hs]
    exact h.setCell hcell (fun z e => by cases e) u
  refine ⟨?_, by rw [List.length_set]; exact H.len, fun i o' ho' hi => ?_, fun i o' ho' hi => ?_, fun T hT => ?_⟩
  · rw [List.length_set, lflat_set8 Q k (unh o) (nops o u) u hQ rfl]
    have h := H.row
    rw [hv] at h ⊢
    exact own_setCell h (by omega) u
  · rw [List.getElem?_set_ne (by omega)]
    exact H.old i o' ho' (by omega)
  · by_cases e : i = k
    · subst e
      rw [ho] at ho'
      simp at ho'
      subst ho'
      exact ⟨u, by rw [List.getElem?_set_self hkl]⟩
    · rw [List.getElem?_set_ne (by omega)]
      exact H.new i o' ho' (by omega)
  · rcases List.mem_or_eq_of_mem_set hT with h | rfl
    · exact ⟨key (H.rd T h).1, key (H.rd T h).2⟩
    · exact ⟨key hu, key (H.rd _ (List.mem_of_getElem? hQ)).2⟩
end

end Go.Proofs.YtfihjmoaibmllaaDoor

/-
  RemsetHolds: empty.
-/
set_option linter.unusedVariables false
set_option maxRecDepth 20000
namespace Go.Proofs.YtfihjmoaibmllaaDoor
open Go.RowKit Go.Shelf

set_option maxHeartbeats 8000000 in
theorem empty_any (cp : Cfg) (a0 : Option Addr) (cap0 : Nat) (P : List LT) (n0 : Nat) (hn0 : n0 = P.length) (w : World) (hL : Laid w) (hP : Prd w.heap.size w (.slice a0 P.length cap0) P) (hpi : ∀ o, o ∈ P → ∀ z, z ∈ o.ps → InI z) (hPl : P.length ≤ 1172812402961) (hpb : ∀ o, o ∈ P → o.ps.length ≤ 17592186044416) :
    Calls Tryd.prog 19 #[pv cp (.slice a0 n0 cap0)] w fun e w' => ∃ (w4 : World) (mm lb b mb g : Nat) (c : Cfg) (L : List LT) (ws : Nat → Int) (th : List Tng), e = .returned (.pointer (some ⟨mm, 0, none⟩)) ∧ Mm w' mm lb b (mb + 1) ∧ Ly w4.heap.size w' lb c L ∧ LOk c L ∧ (∀ T, T ∈ L → T.h = false ∧ ∀ z, z ∈ T.ps → z = 0) ∧ Rm w4 w4.heap.size w' (mb + 1) b g mb (.slice none 0 0) c (tps c L) false ws th [] 0 (fun a => decide (a ∈ ([] : List Int))) ∧ Sk L th ∧ (∀ T, T ∈ th → Full L T) ∧ Below w.heap.size w w4 := by
  have HLa : Hid (Laid w) := hL
  have HPr : Hid (Prd w.heap.size w (.slice a0 P.length cap0) P ∧ (∀ o, o ∈ P → ∀ z, z ∈ o.ps → InI z) ∧ P.length ≤ 1172812402961 ∧ n0 = P.length ∧ (∀ o, o ∈ P → o.ps.length ≤ 17592186044416)) := ⟨hP, hpi, hPl, hn0, hpb⟩
  obtain ⟨i0, hi0, hz0, hz1, hz2⟩ := info_parts Tryd.infoInt
  have HI : Hid (Tryd.prog.info? 3 = some i0 ∧ i0.zero = some (.int .i64 0) ∧ i0.size = 1 ∧ i0.bytes = 8) := ⟨hi0, hz0, hz1, hz2⟩
  have hn0b : n0 ≤ 1172812402961 := by omega
  clear hL hP hpi hPl hn0 hpb hi0 hz0 hz1 hz2
  go_enter Tryd.func19, Tryd.ntmps19
  go_upto_region 1 with fail
  have p0 := Pd.new w cp (.slice a0 n0 cap0)
  have b0 : Below w.heap.size w (w.alloc (.cells (pcells cp (.slice a0 n0 cap0)) 26)) := Below.alloc (Below.refl _ _) (Nat.le_refl _) _
  obtain ⟨v1, hv1⟩ : ∃ v1, v1 = w.alloc (.cells (pcells cp (.slice a0 n0 cap0)) 26) := ⟨_, rfl⟩
  obtain ⟨B, hB⟩ : ∃ B, B = w.heap.size := ⟨_, rfl⟩
  show Code.wp _ _ _ _ (w.alloc (.cells (pcells cp (.slice a0 n0 cap0)) 26))
  rw [← hv1] at p0 b0 ⊢
  rw [← hB] at p0 ⊢
  have HP1 : Hid (Pd v1 B cp (.slice a0 n0 cap0)) := p0
  have HB1 : Hid (Below w.heap.size w v1) := b0
  have k0 : v1.cell? ⟨B, 0, none⟩ = some (.int .i64 cp.eden) := HP1.out.cell 0
  have k1 : v1.cell? ⟨B, 1, none⟩ = some (.int .i64 cp.surv) := HP1.out.cell 1
  have k2 : v1.cell? ⟨B, 2, none⟩ = some (.int .i64 cp.ten) := HP1.out.cell 2
  have k3 : v1.cell? ⟨B, 3, none⟩ = some (.int .i64 cp.large) := HP1.out.cell 3
  have k4 : v1.cell? ⟨B, 4, none⟩ = some (.int .i64 cp.floor) := HP1.out.cell 4
  have k5 : v1.cell? ⟨B, 5, none⟩ = some (.int .i64 cp.num) := HP1.out.cell 5
  have k6 : v1.cell? ⟨B, 6, none⟩ = some (.int .i64 cp.den) := HP1.out.cell 6
  have k7 : v1.cell? ⟨B, 7, none⟩ = some (.int .i64 cp.target) := HP1.out.cell 7
  have k8 : v1.cell? ⟨B, 8, none⟩ = some (.int .i64 cp.maxAge) := HP1.out.cell 8
  have k9 : v1.cell? ⟨B, 9, none⟩ = some (.int .i64 cp.threads) := HP1.out.cell 9
  have k10 : v1.cell? ⟨B, 10, none⟩ = some (.int .i64 cp.slots) := HP1.out.cell 10
  have k11 : v1.cell? ⟨B, 11, none⟩ = some (.int .i64 cp.handles) := HP1.out.cell 11
  have k12 : v1.cell? ⟨B, 12, none⟩ = some (.int .i64 cp.buffer) := HP1.out.cell 12
  have k13 : v1.cell? ⟨B, 13, none⟩ = some (.int .i64 cp.workers) := HP1.out.cell 13
  have k14 : v1.cell? ⟨B, 14, none⟩ = some (.slice a0 n0 cap0) := HP1.out.cell 14
  have hun : Calls Tryd.prog 7 #[pv cp (.slice a0 n0 cap0)] v1 fun e w' => ∃ a m, e = .returned (pv cp (.slice a n0 m)) ∧ w'.ownsRow 0 51 11 (.slice a P.length m) P.length (lflat (P.map unh)) ∧ Below v1.heap.size v1 w' ∧ ∀ y, (Value.slice a P.length m).ownBlock = some y → v1.heap.size ≤ y := by
    have h := unheld_full cp (.slice a0 P.length cap0) P w.heap.size v1 HB1.out.size (HPr.out.1.below HB1.out) HPr.out.2.2.1
    rw [HPr.out.2.2.2.1]
    exact h
  clear HP1 p0 b0 hv1 hB
  go_wp2_with fail
  refine hun.mono ?_
  rintro e w3 ⟨ua, um, rfl, hrow, l3, hfr⟩
  have HB3 : Hid (Below w.heap.size w w3) := HB1.out.trans (l3.mono HB1.out.size)
  have Hfr : Hid (∀ y, (Value.slice ua n0 um).ownBlock = some y → w.heap.size ≤ y) := fun y hy => Nat.le_trans HB1.out.size (hfr y (by rw [← HPr.out.2.2.2.1]; exact hy))
  have HE3 : Hid (Em w3 (.slice ua n0 um) P (P.map unh) 0) := by
    have hr : w3.ownsRow 0 51 11 (.slice ua n0 um) (P.map unh).length (lflat (P.map unh)) := by rw [List.length_map, HPr.out.2.2.2.1]; exact hrow
    refine Em.start hr (fun o ho => ?_)
    obtain ⟨i, hi⟩ := List.getElem?_of_mem ho
    obtain ⟨a9, c9, -, hh⟩ := HPr.out.1
    obtain ⟨-, h2, h3, -⟩ := hh i o hi
    exact ⟨(h2.below HB3.out).mono HB3.out.size, (h3.below HB3.out).mono HB3.out.size⟩
  clear hun k0 k1 k2 k3 k4 k5 k6 k7 k8 k9 k10 k11 k12 k13 k14 hrow l3 hfr HB1
  go_upto_region 2 with fail
  have p3 := Pd.new w3 cp (.slice ua n0 um)
  have b3 : Below w3.heap.size w3 (w3.alloc (.cells (pcells cp (.slice ua n0 um)) 26)) := Below.alloc (Below.refl _ _) (Nat.le_refl _) _
  obtain ⟨v4, hv4⟩ : ∃ v4, v4 = w3.alloc (.cells (pcells cp (.slice ua n0 um)) 26) := ⟨_, rfl⟩
  obtain ⟨B3, hB3⟩ : ∃ B, B = w3.heap.size := ⟨_, rfl⟩
  show Code.wp _ _ _ _ (w3.alloc (.cells (pcells cp (.slice ua n0 um)) 26))
  rw [← hv4] at p3 b3 ⊢
  rw [← hB3] at p3 ⊢
  have HP4 : Hid (Pd v4 B3 cp (.slice ua n0 um)) := p3
  have HE4 : Hid (Em v4 (.slice ua n0 um) P (P.map unh) 0) := HE3.out.below b3
  have HB4 : Hid (Below w.heap.size w v4) := HB3.out.trans (b3.mono HB3.out.size)
  have HB3s : Hid (w.heap.size ≤ B3) := by
    have h := HB3.out.size
    rw [← hB3] at h
    exact h
  clear p3 b3 hv4 hB3 HE3 HB3
  go_wp2_with fail
  go_loopw [4] (fun x4 wr => ∃ k : Nat, k ≤ n0 ∧ x4 = .int .i64 k ∧ ∃ Q, Hid (Pd wr B3 cp (.slice ua n0 um)) ∧ Hid (Em wr (.slice ua n0 um) P Q k) ∧ Hid (Below w.heap.size w wr)) (fun x4 _ => n0 - (intOf x4).toNat)
  case atStart => exact ⟨0, Nat.zero_le _, rfl, P.map unh, HP4, HE4, HB4⟩
  case round =>
    obtain ⟨k, hk, rfl, Q, HPk, HEk, HBk⟩ := hrel
    clear HP4 HE4 HB4
    have e14 : wr.cell? ⟨B3, 14, none⟩ = some (.slice ua n0 um) := HPk.out.cell 14
    by_cases hkl : k < n0
    · have hkI : (k : Int) < (n0 : Int) := by omega
      obtain ⟨o, ho⟩ : ∃ o, P[k]? = some o := ⟨_, List.getElem?_eq_getElem (by have := HPr.out.2.2.2.1; omega)⟩
      have hQ := HEk.out.old k o ho (Nat.le_refl _)
      obtain ⟨p1, p3, hvp, -, -⟩ := (HEk.out.rd _ (List.mem_of_getElem? hQ)).1
      obtain ⟨np, hnp⟩ : ∃ n, n = o.ps.length := ⟨_, rfl⟩
      have hnpb : np ≤ 17592186044416 := by rw [hnp]; exact HPr.out.2.2.2.2 o (List.mem_of_getElem? ho)
      have hQl : Q.length = n0 := by rw [HEk.out.len, HPr.out.2.2.2.1]
      obtain ⟨gq, eua, hgq, hgty, x8⟩ : ∃ gq, ua = some ⟨gq, 0, none⟩ ∧ gq < wr.heap.size ∧ (∃ cs, wr.heap[gq]? = some (.cells cs 51 (0, 0))) ∧ wr.cell? ⟨gq, k * 11 + 8, none⟩ = some (.slice p1 np p3) := by
        rcases HEk.out.row.2 with ⟨e1, h1⟩ | ⟨g', cap', cur, e1, -, h3, -, -, -, h7⟩
        · rw [hQl] at h1; omega
        · simp only [Value.slice.injEq] at e1
          refine ⟨g', e1.1, (Array.getElem?_eq_some_iff.1 h3).1, ⟨_, h3⟩, ?_⟩
          have h8 := lflat_at Q k (unh o) 8 hQ (by decide)
          rw [← h7, List.getElem?_take, if_pos (by omega)] at h8
          rw [cell_of_row _ _ _ _ _ _ h3, ← Array.getElem?_toList, h8, hnp]
          show some (unh o).vp = _
          rw [hvp]
          rfl
      subst eua
      have Hgq : Hid (gq < wr.heap.size ∧ (∃ cs, wr.heap[gq]? = some (.cells cs 51 (0, 0)))) := ⟨hgq, hgty⟩
      have Ho : Hid (P[k]? = some o ∧ np = o.ps.length ∧ Q.length = n0) := ⟨ho, hnp, hQl⟩
      have HB3l : Hid (B3 < wr.heap.size) := HPk.out.lt
      have Hx : Hid (wr.cell? ⟨gq, k * 11 + 8, none⟩ = some (.slice p1 np p3) ∧ wr.cell? ⟨B3, 14, none⟩ = some (.slice (some ⟨gq, 0, none⟩) n0 um)) := ⟨x8, e14⟩
      clear hQ hvp hnp ho hQl hgq hgty
      go_wp2_with fail
      obtain ⟨wl, hwl⟩ : ∃ v, v = wr := ⟨_, rfl⟩
      subst hwl
      clear e14 x8
      go_loopw [5, 6] (fun x5 x6 wi => ∃ f : Nat, f ≤ np ∧ x6 = .int .i64 f ∧ Hid (wi.ownsRow wl.heap.size 3 1 x5 f (ints (List.replicate f 0))) ∧ Hid (Below wl.heap.size wl wi)) (fun _ x6 _ => np - (intOf x6).toNat)
      case atStart => exact ⟨0, Nat.zero_le _, rfl, World.ownsRow_nil _ _ _ _, Below.refl _ _⟩
      case round =>
        obtain ⟨f, hf, rfl, Hrow, Hbe⟩ := hrel
        obtain ⟨a6, n6, c6, rfl⟩ := row_slice Hrow.out
        have y8 : wr.cell? ⟨gq, k * 11 + 8, none⟩ = some (.slice p1 np p3) := (Hbe.out.cell (p := ⟨gq, k * 11 + 8, none⟩) Hgq.out.1).trans Hx.out.1
        have y14 : wr.cell? ⟨B3, 14, none⟩ = some (.slice (some ⟨gq, 0, none⟩) n0 um) := (Hbe.out.cell (p := ⟨B3, 14, none⟩) HB3l.out).trans Hx.out.2
        by_cases hfl : f < np
        · have hfI : (f : Int) < (np : Int) := by omega
          go_wp2_with (at_builtin; refine wpList_append_own_at _ rfl _ _ 42 rfl wl.heap.size 3 i0 (.int .i64 0) 1 8 Tryd.underlying42 HI.out.1 HI.out.2.1 HI.out.2.2.1 HI.out.2.2.2 rfl (by decide) _ _ _ rfl (Hrow.out.alloc _) ⟨wr.heap.size, 0, none⟩ 1 1 [.int .i64 0] rfl rfl (cell_one_new _ _ _) (by simp [Value.oneCell']) (by simp [maxLen]; omega) (by omega) (by have := Hbe.out.size; simp; omega) ?_; intro v' w7 hown' hgrow _ hat; obtain ⟨a7, n7, c7, hv7⟩ := row_slice hown'; subst hv7)
          have Hrow7 : Hid (w7.ownsRow wl.heap.size 3 1 (.slice a7 n7 c7) (f + 1) (ints (List.replicate (f + 1) 0))) := by
            show w7.ownsRow wl.heap.size 3 1 (.slice a7 n7 c7) (f + 1) (ints (List.replicate (f + 1) 0))
            rw [List.replicate_succ']
            simpa [ints] using hown'
          have Hbe7 : Hid (Below wl.heap.size wl w7) := (Hbe.out.alloc Hbe.out.size _).grown hgrow (by have := Hbe.out.size; simp; omega) (fun y hy => by
            rcases Hrow.out.2 with ⟨e1, -⟩ | ⟨g, cap, cur, e1, e2, -⟩
            · have hy' : (Value.slice a6 n6 c6).ownBlock = some y := hy
              rw [e1] at hy'
              simp [Value.ownBlock] at hy'
            · have hy' : (Value.slice a6 n6 c6).ownBlock = some y := hy
              rw [e1] at hy'
              simp [Value.ownBlock] at hy'
              omega)
          clear hown' hgrow hat Hrow Hbe y8 y14
          go_roundw
          case rel => exact ⟨f + 1, by omega, by go_num, Hrow7, Hbe7⟩
          case measure => simp [intOf]; omega
        · have hfI : ¬ (f : Int) < (np : Int) := by omega
          have hfe : f = np := by omega
          have Hlr : Hid (Lrd wr.heap.size wr (.slice a6 n6 c6) .i64 (List.replicate o.ps.length 0)) := by
            have h := Hrow.out
            rw [hfe, Ho.out.2.1] at h
            exact Lrd.own h (by simp)
          have z8 : wr.frozen? ⟨gq, k * 11 + 8, none⟩ = false := by
            obtain ⟨cs, hcs⟩ := Hgq.out.2
            have h := (Hbe.out.block gq Hgq.out.1).trans hcs
            unfold World.frozen?
            simp only [h]
            simp
          have HE5 : Hid (Em (wr.setCell ⟨gq, k * 11 + 8, none⟩ (.slice a6 n6 c6)) (.slice (some ⟨gq, 0, none⟩) n0 um) P (Q.set k (nops o (.slice a6 n6 c6))) (k + 1)) := (HEk.out.below Hbe.out).next (by rw [Ho.out.2.2]) Ho.out.1 Hlr.out
          have HP5 : Hid (Pd (wr.setCell ⟨gq, k * 11 + 8, none⟩ (.slice a6 n6 c6)) B3 cp (.slice (some ⟨gq, 0, none⟩) n0 um)) := ⟨(Below.heap_setCell _ _ _ _ (by
            obtain ⟨cs, hcs⟩ := Hgq.out.2
            exact heap_ty_ne HPk.out.at_ hcs (by decide))).trans (HPk.out.below Hbe.out).at_⟩
          have HB5 : Hid (Below w.heap.size w (wr.setCell ⟨gq, k * 11 + 8, none⟩ (.slice a6 n6 c6))) := Below.setCell (p := ⟨gq, k * 11 + 8, none⟩) (HBk.out.trans (Hbe.out.mono HBk.out.size)) (Hfr.out gq rfl) _
          clear Hrow Hbe Hlr
          go_wp2_with fail
          go_roundw
          case rel => exact ⟨k + 1, by omega, by go_num, _, HP5, HE5, HB5⟩
          case measure => simp [intOf]; omega
    · have hkI : ¬ (k : Int) < (n0 : Int) := by omega
      have hke : k = n0 := by omega
      subst hke
      have HQp : Hid (∀ T, T ∈ Q → ∃ o u, o ∈ P ∧ T = nops o u) := fun T hT => by
        obtain ⟨i, hi⟩ := List.getElem?_of_mem hT
        have hil := (List.getElem?_eq_some_iff.1 hi).1
        have hiP : i < P.length := by rw [← HEk.out.len]; exact hil
        obtain ⟨u, hu⟩ := HEk.out.new i _ (List.getElem?_eq_getElem hiP) (by have := HPr.out.2.2.2.1; omega)
        rw [hi] at hu
        exact ⟨_, u, List.getElem_mem hiP, by simpa using hu⟩
      have hQl : Q.length = k := by rw [HEk.out.len, HPr.out.2.2.2.1]
      have hprd : Prd wr.heap.size wr (.slice ua Q.length um) Q := by
        have h := HEk.out.row
        rw [← hQl] at h
        refine Prd.of_row h (fun T hT => ?_)
        have hrd := HEk.out.rd T hT
        obtain ⟨o, u, ho, rfl⟩ := HQp.out T hT
        obtain ⟨i, hi⟩ := List.getElem?_of_mem ho
        obtain ⟨a9, c9, -, hh⟩ := HPr.out.1
        obtain ⟨h1, -⟩ := hh i o hi
        exact ⟨⟨h1.sp, h1.k, h1.a, h1.t, h1.fill, h1.s, h1.rs⟩, hrd⟩
      have hfx := fix_core cp ua um Q wr.heap.size k hQl.symm wr (Nat.le_refl _) hprd (fun T hT z hz => by
        obtain ⟨o, u, -, rfl⟩ := HQp.out T hT
        have := List.eq_of_mem_replicate hz
        subst this
        unfold InI
        omega)
      have k0 : wr.cell? ⟨B3, 0, none⟩ = some (.int .i64 cp.eden) := HPk.out.cell 0
      have k1 : wr.cell? ⟨B3, 1, none⟩ = some (.int .i64 cp.surv) := HPk.out.cell 1
      have k2 : wr.cell? ⟨B3, 2, none⟩ = some (.int .i64 cp.ten) := HPk.out.cell 2
      have k3 : wr.cell? ⟨B3, 3, none⟩ = some (.int .i64 cp.large) := HPk.out.cell 3
      have k4 : wr.cell? ⟨B3, 4, none⟩ = some (.int .i64 cp.floor) := HPk.out.cell 4
      have k5 : wr.cell? ⟨B3, 5, none⟩ = some (.int .i64 cp.num) := HPk.out.cell 5
      have k6 : wr.cell? ⟨B3, 6, none⟩ = some (.int .i64 cp.den) := HPk.out.cell 6
      have k7 : wr.cell? ⟨B3, 7, none⟩ = some (.int .i64 cp.target) := HPk.out.cell 7
      have k8 : wr.cell? ⟨B3, 8, none⟩ = some (.int .i64 cp.maxAge) := HPk.out.cell 8
      have k9 : wr.cell? ⟨B3, 9, none⟩ = some (.int .i64 cp.threads) := HPk.out.cell 9
      have k10 : wr.cell? ⟨B3, 10, none⟩ = some (.int .i64 cp.slots) := HPk.out.cell 10
      have k11 : wr.cell? ⟨B3, 11, none⟩ = some (.int .i64 cp.handles) := HPk.out.cell 11
      have k12 : wr.cell? ⟨B3, 12, none⟩ = some (.int .i64 cp.buffer) := HPk.out.cell 12
      have k13 : wr.cell? ⟨B3, 13, none⟩ = some (.int .i64 cp.workers) := HPk.out.cell 13
      have k14 : wr.cell? ⟨B3, 14, none⟩ = some (.slice ua k um) := HPk.out.cell 14
      clear hprd HPk HEk e14 hQl
      go_wp2_with fail
      refine hfx.mono ?_
      rintro e w4 ⟨lb, c, L, rfl, hly, ok, hlen, hlk, -, b4⟩
      have HB4 : Hid (Below w.heap.size w w4) := HBk.out.trans (b4.mono HBk.out.size)
      have HO : Hid (LOk c L ∧ ∀ T, T ∈ L → T.h = false ∧ ∀ z, z ∈ T.ps → z = 0) := ⟨ok, fun T hT => by
        obtain ⟨i, hi⟩ := List.getElem?_of_mem hT
        have hil := (List.getElem?_eq_some_iff.1 hi).1
        have hiQ : i < Q.length := by omega
        have hf := hlk.fx i _ T (List.getElem?_eq_getElem hiQ) hi
        obtain ⟨o, u, -, hTo⟩ := HQp.out _ (List.getElem_mem hiQ)
        rw [hTo] at hf
        refine ⟨?_, fun z hz => ?_⟩
        · rw [hf.h]
          split
          · rfl
          · rfl
        · rcases hf.pz z hz with h | h
          · exact h
          · exact List.eq_of_mem_replicate h⟩
      have hla : Laid w4 := HLa.out.keep HB4.out
      have hbu := build_any hly (Nat.le_refl _) ok hla hla.lt0 hla.lt1
      have HLy : Hid (Ly w4.heap.size w4 lb c L) := hly
      clear hfx HBk hly ok hlen hlk b4 hla HQp k0 k1 k2 k3 k4 k5 k6 k7 k8 k9 k10 k11 k12 k13 k14
      go_wp2_with fail
      refine hbu.mono ?_
      rintro e w5 ⟨b, rfl, g, ws, th, hbq, sk, hfull⟩
      have HBq : Hid (Bq w4 w4.heap.size w5 b g c (tps c L) false ws th) := hbq
      have HSk : Hid (Sk L th ∧ ∀ T, T ∈ th → Full L T) := ⟨sk, hfull⟩
      have hnw := sNew_any b w5
      clear hbu hbq sk hfull
      go_wp2_with fail
      refine hnw.mono ?_
      rintro e w6 ⟨rfl, hrs, l6⟩
      have hR := Rm.start HBq.out (Nat.le_refl _) hrs l6
      obtain ⟨mb, hmb⟩ : ∃ m, m = w5.heap.size := ⟨_, rfl⟩
      rw [← hmb] at hR ⊢
      have HR : Hid (Rm w4 w4.heap.size w6 (mb + 1) b g mb (.slice none 0 0) c (tps c L) false ws th [] 0 (fun a => decide (a ∈ ([] : List Int)))) := hR
      have hmm : (w6.alloc (.cells #[.pointer (some ⟨lb, 0, none⟩), .pointer (some ⟨b, 0, none⟩), .pointer (some ⟨mb + 1, 0, none⟩)] 39)).heap[w6.heap.size]? = some (.cells #[.pointer (some ⟨lb, 0, none⟩), .pointer (some ⟨b, 0, none⟩), .pointer (some ⟨mb + 1, 0, none⟩)] 39 (0, 0)) := heap_alloc_new w6 _
      have b7 : Below w6.heap.size w6 (w6.alloc (.cells #[.pointer (some ⟨lb, 0, none⟩), .pointer (some ⟨b, 0, none⟩), .pointer (some ⟨mb + 1, 0, none⟩)] 39)) := Below.alloc (Below.refl _ _) (Nat.le_refl _) _
      have HR7 : Hid (Rm w4 w4.heap.size (w6.alloc (.cells #[.pointer (some ⟨lb, 0, none⟩), .pointer (some ⟨b, 0, none⟩), .pointer (some ⟨mb + 1, 0, none⟩)] 39)) (mb + 1) b g mb (.slice none 0 0) c (tps c L) false ws th [] 0 (fun a => decide (a ∈ ([] : List Int)))) := HR.out.below b7
      have Hmm : Hid (Mm (w6.alloc (.cells #[.pointer (some ⟨lb, 0, none⟩), .pointer (some ⟨b, 0, none⟩), .pointer (some ⟨mb + 1, 0, none⟩)] 39)) w6.heap.size lb b (mb + 1)) := ⟨hmm⟩
      clear hnw hrs l6 hR HBq hmb hmm b7 HR
      go_wp2
      go_ret
      exact ⟨w4, w6.heap.size, lb, b, mb, g, c, L, ws, th, rfl, Hmm.out, HLy.out.below HR7.out.bq.be, HO.out.1, HO.out.2, HR7.out, HSk.out.1, HSk.out.2, HB4.out⟩

end Go.Proofs.YtfihjmoaibmllaaDoor

/-
  RemsetHolds: how it begins.
-/
set_option linter.unusedVariables false
set_option maxRecDepth 20000
namespace Go.Proofs.YtfihjmoaibmllaaDoor
open Go.RowKit Go.Shelf

section
variable {c : Cfg} {x : Tps} {ws : Nat → Int} {th : List Tng} {w : World} {b g : Nat} {L : List LT} {Fr : List (Nat × List Int)}

theorem thr_zero : thr L 0 = false := by
  cases h : thr L 0
  · rfl
  · obtain ⟨o, ho⟩ := thr_iff.1 h
    have := (ob_some.1 ho).1
    omega

theorem start_ps (S : Sk L th) (ok : LOk c L) (hz : ∀ T, T ∈ L → T.h = false ∧ ∀ z, z ∈ T.ps → z = 0) (hf : ∀ T, T ∈ th → Full L T) (hFr : Fr.map (·.2) = L.map (fun T => List.replicate T.ps.length 0)) : Ps L th Fr [] [] := by
  refine ⟨S, ⟨by rw [hFr, List.length_map], fun T hT fs hfs => ?_, fun fs hfs z hz' => ?_, fun fs hfs => ?_⟩, rfl, List.nodup_nil, fun z h => by simp at h, fun T hT => ?_⟩
  · obtain ⟨n, o, e, h1, h2, h3, -⟩ := S.of T hT
    have hob : ob L T.no = some o := by rw [e]; exact ob_at h1 h2 h3
    rw [hFr, List.getElem?_map, e, Nat.add_sub_cancel, h1] at hfs
    simp only [Option.map_some, Option.some.injEq] at hfs
    rw [(hf T hT o hob).1, ← hfs]
    congr 1
    exact List.eq_replicate_iff.2 ⟨rfl, (hz o (List.mem_of_getElem? h1)).2⟩
  · rw [hFr] at hfs
    obtain ⟨o, ho, rfl⟩ := List.mem_map.1 hfs
    have := List.eq_of_mem_replicate hz'
    subst this
    unfold InI
    omega
  · rw [hFr] at hfs
    obtain ⟨o, ho, rfl⟩ := List.mem_map.1 hfs
    obtain ⟨i, hi⟩ := List.getElem?_of_mem ho
    rw [List.length_replicate]
    exact (ok.plc i o hi).few.1
  · obtain ⟨o, ho, -⟩ := S.ob hT
    obtain ⟨-, h2, -⟩ := ob_some.1 ho
    rw [(hf T hT o ho).2.2, (hz o (List.mem_of_getElem? h2)).1]
    simp

theorem start_cov (P : Ps L th Fr [] []) (H : Ax w b g c x false ws th) (hz : ∀ p, p ∈ Fr → ∀ z, z ∈ p.2 → z = 0) : Cov c false th [] := fun T hT hq => by
  unfold q4T at hq
  simp only [Bool.and_eq_true] at hq
  have h := hN_thing P.sk H P.ag hT
  rw [hq.2] at h
  unfold hN at h
  cases hp : Fr[((T.no : Int) - 1).toNat]? with
  | none => rw [hp] at h; simp at h
  | some p =>
    rw [hp] at h
    simp only [Option.map_some, Option.any_some] at h
    obtain ⟨z, h1, h2⟩ := List.any_eq_true.1 h
    have := hz p (List.mem_of_getElem? hp) z h1
    subst this
    rw [← yg_plc P.sk H 0, plc_none thr_zero] at h2
    unfold yg at h2
    rw [show spc c 0 = 0 from by unfold spc; rw [if_pos (by omega)]] at h2
    simp at h2
end

end Go.Proofs.YtfihjmoaibmllaaDoor

