/-
  The document's arena in memory.
-/
import Derived.Test.YtbdkcelggffneaaGreatDoorB1
set_option linter.unusedVariables false
set_option maxRecDepth 20000
namespace Go.Proofs.YtbdkcelggffneaaGreatDoor
open Go.RowKit

/-- The tops lie in their spaces. -/
structure Tok (c : Cfg) (x : Tps) : Prop where
  t10 : 1 ≤ x.t1
  t11 : x.t1 ≤ 1 + c.eden
  t20 : 1 + c.eden ≤ x.t2
  t21 : x.t2 ≤ 1 + c.eden + c.surv
  t30 : 1 + c.eden + c.surv ≤ x.t3
  t31 : x.t3 ≤ 1 + c.eden + c.surv + c.surv
  t40 : 1 + c.eden + c.surv + c.surv ≤ x.t4
  t41 : x.t4 ≤ 1 + c.eden + c.surv + c.surv + c.ten

/-- The cells of the document's arena. -/
def raf (c : Cfg) (g : Nat → Nat) (x : Tps) (sw : Bool) : Nat → Value
  | 0 => .int .i64 c.eden
  | 1 => .int .i64 c.surv
  | 2 => .int .i64 c.ten
  | 3 => .int .i64 c.large
  | 4 => .int .i64 c.floor
  | 5 => .int .i64 c.num
  | 6 => .int .i64 c.den
  | 7 => .int .i64 c.target
  | 8 => .int .i64 c.maxAge
  | 9 => .int .i64 c.threads
  | 10 => .int .i64 c.slots
  | 11 => .int .i64 c.handles
  | 12 => .int .i64 c.buffer
  | 13 => .int .i64 c.workers
  | 14 => .slice none 0 0
  | 15 => .slice (some ⟨g 1, 0, none⟩) c.eden.toNat c.eden.toNat
  | 16 => .slice (some ⟨g 2, 0, none⟩) c.surv.toNat c.surv.toNat
  | 17 => .slice (some ⟨g 3, 0, none⟩) c.surv.toNat c.surv.toNat
  | 18 => .slice (some ⟨g 4, 0, none⟩) c.ten.toNat c.ten.toNat
  | 19 => .int .i64 0
  | 20 => .int .i64 (x.t1 - 1)
  | 21 => .int .i64 (x.t2 - (1 + c.eden))
  | 22 => .int .i64 (x.t3 - (1 + c.eden + c.surv))
  | 23 => .int .i64 (x.t4 - (1 + c.eden + c.surv + c.surv))
  | _ => .int .i64 (if sw = true then 3 else 2)

/-- How many words a space has. -/
def spn (c : Cfg) (s : Nat) : Nat := if s = 1 then c.eden.toNat else if s = 4 then c.ten.toNat else c.surv.toNat

/-- The document's arena in block b, a space's words in block g s. -/
structure Ra (w : World) (b : Nat) (g : Nat → Nat) (c : Cfg) (x : Tps) (sw : Bool) (ws : Nat → Int) : Prop where
  own : w.rowIs b 77 25 (raf c g x sw)
  row : ∀ s, 1 ≤ s → s ≤ 4 → w.rowIs (g s) 29 (spn c s) (fun j => .int .u64 (ws ((fst c s).toNat + j)))
  ok : c.Ok
  tk : Tok c x
  z0 : ws 0 = 0
  gd : ∀ s t, 1 ≤ s → s ≤ 4 → 1 ≤ t → t ≤ 4 → s ≠ t → g s ≠ g t

section
variable {w w' : World} {b : Nat} {g : Nat → Nat} {c : Cfg} {x : Tps} {sw : Bool} {ws : Nat → Int}
theorem Ra.below (h : Ra w b g c x sw ws) (l : Below w.heap.size w w') : Ra w' b g c x sw ws :=
  ⟨h.own.of_block (l.block _ h.own.lt), fun s h1 h4 => (h.row s h1 h4).of_block (l.block _ (h.row s h1 h4).lt), h.ok, h.tk, h.z0, h.gd⟩
theorem Ra.cell (h : Ra w b g c x sw ws) (j : Nat) (hj : j < 25) : w.cell? ⟨b, j, none⟩ = some (raf c g x sw j) := h.own.cell hj
end

theorem rspace_any (s : Int) (w : World) :
    Calls Tryz.prog 93 #[.int .i64 s] w fun e w' => e = .returned (.bool (decide (1 ≤ s ∧ s ≤ 4))) ∧ w = w' := by
  by_cases h1 : 1 ≤ s
  · by_cases h2 : s ≤ 4
    · go_enter Tryz.func93, Tryz.ntmps93
      go_wp2
      go_ret
      exact ⟨by simp [h1, h2], rfl⟩
    · have h2' : decide (s ≤ 4) = false := decide_eq_false h2
      go_enter Tryz.func93, Tryz.ntmps93
      go_wp2
      go_ret
      exact ⟨by simp, rfl⟩
  · have h1' : decide (1 ≤ s) = false := decide_eq_false h1
    go_enter Tryz.func93, Tryz.ntmps93
    go_wp2
    go_ret
    exact ⟨by simp, rfl⟩

theorem rfrom_any (b : Nat) (g : Nat → Nat) (c : Cfg) (x : Tps) (sw : Bool) (ws : Nat → Int) (w : World) (h : Ra w b g c x sw ws) :
    Calls Tryz.prog 23 #[.pointer (some ⟨b, 0, none⟩)] w fun e w' => e = .returned (.int .i64 (if sw = true then 3 else 2)) ∧ w = w' := by
  have k : w.cell? ⟨b, 24, none⟩ = some (.int .i64 (if sw = true then 3 else 2)) := h.cell 24 (by decide)
  clear h
  generalize (if sw = true then (3 : Int) else 2) = v at *
  go_enter Tryz.func23, Tryz.ntmps23
  go_wp2
  go_ret
  exact ⟨rfl, rfl⟩

theorem rto_any (b : Nat) (g : Nat → Nat) (c : Cfg) (x : Tps) (sw : Bool) (ws : Nat → Int) (w : World) (h : Ra w b g c x sw ws) :
    Calls Tryz.prog 24 #[.pointer (some ⟨b, 0, none⟩)] w fun e w' => e = .returned (.int .i64 (if sw = true then 2 else 3)) ∧ w = w' := by
  have k : w.cell? ⟨b, 24, none⟩ = some (.int .i64 (if sw = true then 3 else 2)) := h.cell 24 (by decide)
  clear h
  cases sw
  · simp only [Bool.false_eq_true, if_false] at k ⊢
    go_enter Tryz.func24, Tryz.ntmps24
    go_wp2
    go_ret
    exact ⟨rfl, rfl⟩
  · simp only [if_true] at k ⊢
    go_enter Tryz.func24, Tryz.ntmps24
    go_wp2
    go_ret
    exact ⟨rfl, rfl⟩

theorem Ra.wrd {w : World} {b : Nat} {g : Nat → Nat} {c : Cfg} {x : Tps} {sw : Bool} {ws : Nat → Int} (h : Ra w b g c x sw ws) (s : Nat) (h1 : 1 ≤ s) (h4 : s ≤ 4) : w.cell? ⟨b, 14 + s, none⟩ = some (.slice (some ⟨g s, 0, none⟩) (spn c s) (spn c s)) := by
  obtain rfl | rfl | rfl | rfl : s = 1 ∨ s = 2 ∨ s = 3 ∨ s = 4 := by omega
  · exact h.cell 15 (by decide)
  · exact h.cell 16 (by decide)
  · exact h.cell 17 (by decide)
  · exact h.cell 18 (by decide)

theorem Ra.usd {w : World} {b : Nat} {g : Nat → Nat} {c : Cfg} {x : Tps} {sw : Bool} {ws : Nat → Int} (h : Ra w b g c x sw ws) (s : Nat) (h1 : 1 ≤ s) (h4 : s ≤ 4) : w.cell? ⟨b, 19 + s, none⟩ = some (.int .i64 (x.top s - fst c s)) := by
  obtain rfl | rfl | rfl | rfl : s = 1 ∨ s = 2 ∨ s = 3 ∨ s = 4 := by omega
  · exact h.cell 20 (by decide)
  · exact h.cell 21 (by decide)
  · exact h.cell 22 (by decide)
  · exact h.cell 23 (by decide)

theorem spn_bhd {c : Cfg} (ok : c.Ok) (s : Nat) (h1 : 1 ≤ s) (h4 : s ≤ 4) : bhd c s = fst c s + spn c s ∧ spn c s ≤ 65536 ∧ 64 ≤ spn c s := by
  have := ok.e0; have := ok.e1; have := ok.s0; have := ok.s1; have := ok.t0; have := ok.t1
  obtain rfl | rfl | rfl | rfl : s = 1 ∨ s = 2 ∨ s = 3 ∨ s = 4 := by omega
  all_goals
    simp only [bhd, fst, spn]
    simp
    omega

theorem fst_succ {c : Cfg} (ok : c.Ok) (s : Nat) (h1 : 1 ≤ s) (h4 : s < 4) : fst c ((s : Int) + 1) = fst c s + spn c s := by
  have := ok.e0; have := ok.e1; have := ok.s0; have := ok.s1; have := ok.t0; have := ok.t1
  obtain rfl | rfl | rfl : s = 1 ∨ s = 2 ∨ s = 3 := by omega
  all_goals
    simp only [fst, spn]
    simp
    try omega

theorem fst_in {c : Cfg} (ok : c.Ok) (s : Int) : 0 ≤ fst c s ∧ fst c s ≤ 262144 := by
  have := ok.e0; have := ok.e1; have := ok.s0; have := ok.s1; have := ok.t0; have := ok.t1
  unfold fst
  repeat' split
  all_goals omega

set_option maxHeartbeats 2000000 in
theorem rbounds_any (b : Nat) (g : Nat → Nat) (c : Cfg) (x : Tps) (sw : Bool) (ws : Nat → Int) (s : Int) (w : World) (h : Ra w b g c x sw ws) :
    Calls Tryz.prog 73 #[.pointer (some ⟨b, 0, none⟩), .int .i64 s] w fun e w' => e = .returned (.tuple #[.int .i64 (fst c s), .int .i64 (bhd c s)]) ∧ Below w.heap.size w w' := by
  have hsp := rspace_any s w
  by_cases hs : 1 ≤ s ∧ s ≤ 4
  · rw [decide_eq_true hs] at hsp
    obtain ⟨n, rfl⟩ : ∃ n : Nat, s = n := ⟨s.toNat, by omega⟩
    have hn1 : 1 ≤ n := by omega
    have hn4 : n ≤ 4 := by omega
    have hb := spn_bhd h.ok n hn1 hn4
    have hf := fst_in h.ok (n : Int)
    have kn := h.wrd n hn1 hn4
    have HR : Hid (Ra w b g c x sw ws) := h
    have HB : Hid (bhd c n = fst c n + spn c n) := hb.1
    have hb2 := hb.2.1
    clear h hs hb
    go_enter Tryz.func73, Tryz.ntmps73
    go_wp2_with fail
    refine hsp.mono ?_
    rintro e w1 ⟨rfl, rfl⟩
    clear hsp
    go_wp2
    go_loopw [6, 7] (fun v k wr => ∃ (j : Nat), 1 ≤ j ∧ j ≤ n ∧ k = .int .i64 j ∧ v = .int .i64 (fst c j) ∧ Hid (wr = w)) (fun _ k _ => n - (intOf k).toNat)
    case atStart => exact ⟨1, Nat.le_refl _, hn1, rfl, by simp [fst], rfl⟩
    case round =>
      obtain ⟨j, hj1, hjn, rfl, rfl, hw⟩ := hrel
      have hw' := hw.out
      subst hw'
      clear hw
      by_cases hlt : j < n
      · have kj := HR.out.wrd j hj1 (by omega)
        have hbj := (spn_bhd HR.out.ok j hj1 (by omega)).2.1
        have hfj := fst_in HR.out.ok (j : Int)
        have HF : Hid (fst c ((j : Int) + 1) = fst c j + spn c j) := fst_succ HR.out.ok j hj1 (by omega)
        have hji : (j : Int) < n := by omega
        have hj5 : (j : Int) < 5 := by omega
        clear kn
        generalize hfe : fst c (j : Int) = fj at *
        generalize spn c j = sj at *
        go_wp2
        go_roundw
        case rel => exact ⟨j + 1, by omega, by omega, by go_num, by rw [show ((j + 1 : Nat) : Int) = (j : Int) + 1 by omega, HF.out], by first | exact True.intro | exact rfl⟩
        case measure => simp [intOf]; omega
      · obtain rfl : j = n := by omega
        have hnk : ¬ (j : Int) < (j : Int) := by omega
        have hj5 : (j : Int) < 5 := by omega
        have HG : Hid (bhd c j = fst c j + spn c j) := HB.out
        generalize hfe : fst c (j : Int) = fj at *
        have HFJ : Hid (fst c (j : Int) = fj) := hfe
        clear hfe
        generalize spn c j = sj at *
        go_upto_region 8 with fail
        go_quiet (fail)
        go_wp2
        go_ret2
        exact ⟨by rw [HG.out, HFJ.out]; rfl, below_drewN (Below.refl _ _) _⟩
  · rw [decide_eq_false hs] at hsp
    rw [fst_zero hs, bhd_zero hs]
    clear h hs
    go_enter Tryz.func73, Tryz.ntmps73
    go_wp2_with fail
    refine hsp.mono ?_
    rintro e w1 ⟨rfl, rfl⟩
    clear hsp
    go_wp2
    go_ret2
    exact ⟨rfl, Below.refl _ _⟩

set_option maxHeartbeats 2000000 in
theorem rsize_any (b : Nat) (g : Nat → Nat) (c : Cfg) (x : Tps) (sw : Bool) (ws : Nat → Int) (w : World) (h : Ra w b g c x sw ws) :
    Calls Tryz.prog 44 #[.pointer (some ⟨b, 0, none⟩)] w fun e w' => e = .returned (.int .i64 c.words) ∧ w' = w := by
  have HR : Hid (Ra w b g c x sw ws) := h
  clear h
  go_enter Tryz.func44, Tryz.ntmps44
  go_wp2
  go_loopw [3, 4] (fun v k wr => ∃ (j : Nat), 1 ≤ j ∧ j ≤ 5 ∧ k = .int .i64 j ∧ v = .int .i64 (if j = 5 then c.words else fst c j) ∧ Hid (wr = w)) (fun _ k _ => 5 - (intOf k).toNat)
  case atStart => exact ⟨1, Nat.le_refl _, by omega, rfl, by simp [fst], rfl⟩
  case round =>
    obtain ⟨j, hj1, hjn, rfl, rfl, hw⟩ := hrel
    have hw' := hw.out
    subst hw'
    clear hw
    by_cases hlt : j < 5
    · have kj := HR.out.wrd j hj1 (by omega)
      have hbj := (spn_bhd HR.out.ok j hj1 (by omega))
      have hfj := fst_in HR.out.ok (j : Int)
      have hb2 := hbj.2.1
      have HF : Hid ((if j + 1 = 5 then c.words else fst c ((j + 1 : Nat) : Int)) = fst c j + spn c j) := by
        show _ = _
        by_cases h5 : j = 4
        · subst h5
          rw [if_pos rfl, ← hbj.1]
          simp [bhd, Cfg.words]
        · rw [if_neg (by omega), show ((j + 1 : Nat) : Int) = (j : Int) + 1 by omega]
          exact fst_succ HR.out.ok j hj1 (by omega)
      have hj5 : (j : Int) < 5 := by omega
      rw [if_neg (by omega)]
      clear hbj
      generalize fst c (j : Int) = fj at *
      generalize spn c j = sj at *
      go_wp2
      go_roundw
      case rel => exact ⟨j + 1, by omega, by omega, by go_num, by rw [HF.out], by first | exact True.intro | exact rfl⟩
      case measure => simp [intOf]; omega
    · obtain rfl : j = 5 := by omega
      rw [if_pos rfl]
      generalize hcw : c.words = cw at *
      have HC : Hid (c.words = cw) := hcw
      clear hcw
      go_wp2
      go_ret
      exact ⟨by rw [HC.out]; rfl, rfl⟩

set_option maxHeartbeats 2000000 in
theorem rtop_any (b : Nat) (g : Nat → Nat) (c : Cfg) (x : Tps) (sw : Bool) (ws : Nat → Int) (s : Int) (w : World) (h : Ra w b g c x sw ws) :
    Calls Tryz.prog 76 #[.pointer (some ⟨b, 0, none⟩), .int .i64 s] w fun e w' => e = .returned (.int .i64 (x.top s)) ∧ Below w.heap.size w w' := by
  have hsp := rspace_any s w
  by_cases hs : 1 ≤ s ∧ s ≤ 4
  · rw [decide_eq_true hs] at hsp
    have hb := rbounds_any b g c x sw ws s w h
    obtain ⟨n, rfl⟩ : ∃ n : Nat, s = n := ⟨s.toNat, by omega⟩
    have hf := fst_in h.ok (n : Int)
    have ht : fst c n ≤ x.top n ∧ x.top n ≤ 400000 := by
      have := h.ok.e1; have := h.ok.s1; have := h.ok.t1
      obtain ⟨a1, a2, a3, a4, a5, a6, a7, a8⟩ := h.tk
      obtain rfl | rfl | rfl | rfl : n = 1 ∨ n = 2 ∨ n = 3 ∨ n = 4 := by omega
      all_goals
        simp only [fst, Tps.top]
        simp
        omega
    have HR : Hid (Ra w b g c x sw ws) := h
    have hn1 : 1 ≤ n := by omega
    have hn4 : n ≤ 4 := by omega
    clear h hs
    generalize hfe : fst c (n : Int) = fn at *
    generalize bhd c (n : Int) = bn at *
    go_enter Tryz.func76, Tryz.ntmps76
    go_wp2_with fail
    refine hsp.mono ?_
    rintro e w1 ⟨rfl, rfl⟩
    clear hsp
    go_wp2_with fail
    refine hb.mono ?_
    rintro e w1 ⟨rfl, l1⟩
    have ku := (HR.out.below l1).usd n hn1 hn4
    rw [hfe] at ku
    have hn5 : (n : Int) < 5 := by omega
    have HL : Hid (Below w.heap.size w w1) := l1
    generalize hte : x.top (n : Int) = tn at *
    have HT : Hid (x.top (n : Int) = tn) := hte
    have he : fn + (tn - fn) = tn := by omega
    clear hb l1 hfe hte
    go_wp2
    go_ret
    exact ⟨by rw [HT.out]; first | rfl | rw [he] | simp, HL.out⟩
  · rw [decide_eq_false hs] at hsp
    rw [top_zero hs]
    clear h hs
    go_enter Tryz.func76, Tryz.ntmps76
    go_wp2_with fail
    refine hsp.mono ?_
    rintro e w1 ⟨rfl, rfl⟩
    clear hsp
    go_wp2
    go_ret
    exact ⟨rfl, Below.refl _ _⟩

set_option maxHeartbeats 2000000 in
theorem rfree_any (b : Nat) (g : Nat → Nat) (c : Cfg) (x : Tps) (sw : Bool) (ws : Nat → Int) (s : Int) (w : World) (h : Ra w b g c x sw ws) :
    Calls Tryz.prog 77 #[.pointer (some ⟨b, 0, none⟩), .int .i64 s] w fun e w' => e = .returned (.int .i64 (bhd c s - x.top s)) ∧ Below w.heap.size w w' := by
  have hsp := rspace_any s w
  by_cases hs : 1 ≤ s ∧ s ≤ 4
  · rw [decide_eq_true hs] at hsp
    obtain ⟨n, rfl⟩ : ∃ n : Nat, s = n := ⟨s.toNat, by omega⟩
    have hn1 : 1 ≤ n := by omega
    have hn4 : n ≤ 4 := by omega
    have hb := spn_bhd h.ok n hn1 hn4
    have ht : fst c n ≤ x.top n ∧ x.top n ≤ bhd c n := by
      have := h.ok.e1; have := h.ok.s1; have := h.ok.t1
      obtain ⟨a1, a2, a3, a4, a5, a6, a7, a8⟩ := h.tk
      obtain rfl | rfl | rfl | rfl : n = 1 ∨ n = 2 ∨ n = 3 ∨ n = 4 := by omega
      all_goals
        simp only [fst, bhd, Tps.top]
        simp
        omega
    have kw := h.wrd n hn1 hn4
    have ku := h.usd n hn1 hn4
    have HE : Hid (bhd c n - x.top n = (spn c n : Int) - (x.top n - fst c n)) := by show _ = _; omega
    have h1 : 0 ≤ x.top n - fst c n := by omega
    have h2 : x.top n - fst c n ≤ 65536 := by omega
    have h3 := hb.2.1
    have hn5 : (n : Int) < 5 := by omega
    clear h hs hb ht
    generalize x.top (n : Int) - fst c (n : Int) = un at *
    generalize spn c n = sn at *
    go_enter Tryz.func77, Tryz.ntmps77
    go_wp2_with fail
    refine hsp.mono ?_
    rintro e w1 ⟨rfl, rfl⟩
    clear hsp
    go_upto_region 3 with fail
    go_quiet (fail)
    go_wp2
    go_ret
    exact ⟨by rw [HE.out]; rfl, below_drewN (Below.refl _ _) _⟩
  · rw [decide_eq_false hs] at hsp
    rw [bhd_zero hs, top_zero hs]
    clear h hs
    go_enter Tryz.func77, Tryz.ntmps77
    go_wp2_with fail
    refine hsp.mono ?_
    rintro e w1 ⟨rfl, rfl⟩
    clear hsp
    go_wp2
    go_ret
    exact ⟨rfl, Below.refl _ _⟩
end Go.Proofs.YtbdkcelggffneaaGreatDoor
