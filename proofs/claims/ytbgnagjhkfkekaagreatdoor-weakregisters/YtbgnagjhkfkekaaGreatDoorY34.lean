/-
  Fix.
-/
import Derived.Test.YtbgnagjhkfkekaaGreatDoorPYg
import Derived.Deep.CutRange
set_option linter.unusedVariables false
set_option maxRecDepth 20000
namespace Go.Proofs.YtbgnagjhkfkekaaGreatDoor
open Go.RowKit Go.Shelf

theorem linfo5 : (Tryz.prog.info? 54).map (·.size) = some 5 := by kernel_rfl

/-- The cells of a new lay. -/
abbrev lzero (c : Cfg) : Array Value := #[.int .i64 c.eden, .int .i64 c.surv, .int .i64 c.ten, .int .i64 c.large, .int .i64 c.floor, .int .i64 c.num, .int .i64 c.den, .int .i64 c.target, .int .i64 c.maxAge, .int .i64 c.threads, .int .i64 c.slots, .int .i64 c.handles, .int .i64 c.buffer, .int .i64 c.workers, .slice none 0 0, .slice none 0 0, .int .i64 0, .int .i64 0, .int .i64 0, .int .i64 0, .int .i64 0, .int .i64 0, .int .i64 0, .int .i64 0, .int .i64 0, .int .i64 0, .int .i64 0, .int .i64 0, .int .i64 0, .int .i64 0, .int .i64 0, .int .i64 0]

theorem lw_new (w : World) (c : Cfg) : Lw (w.alloc (.cells (lzero c) 56)) w.heap.size c (.slice none 0 0) (.slice none 0 0) z5 z5 z5 0 :=
  World.rowIs_alloc w (lzero c) 56 _ (by
    intro i hi
    match i, hi with
    | 0, _ | 1, _ | 2, _ | 3, _ | 4, _ | 5, _ | 6, _ | 7, _ | 8, _ | 9, _ | 10, _ | 11, _ | 12, _ | 13, _ | 14, _ | 15, _ | 16, _ | 17, _ | 18, _ | 19, _ | 20, _ | 21, _ | 22, _ | 23, _ | 24, _ | 25, _ | 26, _ | 27, _ | 28, _ | 29, _ | 30, _ | 31, _ => rfl
    | j + 32, h => exact absurd (show j + 32 < 32 from h) (by omega))

theorem setCells_other (b : Nat) : ∀ (vs : List Value) (o : Nat) (w : World) (k : Nat), k ≠ b → (w.setCells b o vs).heap[k]? = w.heap[k]? := by
  intro vs
  induction vs with
  | nil => intro o w k _; rfl
  | cons v vs ih =>
    intro o w k hk
    rw [World.setCells, ih (o + 1) _ k hk]
    exact Below.heap_setCell _ _ _ _ hk

theorem below_setCells {n : Nat} {w w' : World} {b : Nat} (l : Below n w w') (hb : n ≤ b) : ∀ (vs : List Value) (o : Nat), Below n w (w'.setCells b o vs) := by
  intro vs
  induction vs generalizing w' with
  | nil => intro o; exact l
  | cons v vs ih =>
    intro o
    rw [World.setCells]
    exact ih (Below.setCell (p := ⟨b, o, none⟩) l hb v) (o + 1)

/-- A lay's tops and words. -/
structure Lt (w : World) (lb : Nat) (c : Cfg) (x : Tps) : Prop where
  tops : ∀ s : Nat, 1 ≤ s → s ≤ 4 → w.cell? ⟨lb, 21 + s, none⟩ = some (.int .i64 (x.top s))
  wds : w.cell? ⟨lb, 31, none⟩ = some (.int .i64 c.words)

theorem Lt.below {n1 : Nat} {w w' : World} {lb : Nat} {c : Cfg} {x : Tps} (h : Lt w lb c x) (hl : lb < n1) (l : Below n1 w w') : Lt w' lb c x :=
  ⟨fun s h1 h4 => (l.cell (p := ⟨lb, 21 + s, none⟩) hl).trans (h.tops s h1 h4), (l.cell (p := ⟨lb, 31, none⟩) hl).trans h.wds⟩

theorem Fq.lt_ {w v : World} {B : Nat} {cp c : Cfg} {pl tv av : Value} {L : List LT} {x : Tps} {q4 : Int} (H : Fq w v B cp c pl tv av L x q4) (hq : endsf c 4 = q4) : Lt v (B + 1) c x := by
  refine ⟨fun s h1 h4 => ?_, ?_⟩
  · rw [H.ly.cell (i := 21 + s) (by omega)]
    obtain rfl | rfl | rfl | rfl : s = 1 ∨ s = 2 ∨ s = 3 ∨ s = 4 := by omega
    all_goals simp [lyg, topf, Tps.top]
  · rw [H.ly.cell (i := 31) (by omega), ← hq]
    simp [lyg, endsf, Cfg.words]
    omega

set_option maxHeartbeats 8000000 in
theorem fix_core (cp : Cfg) (a0 : Option Addr) (cap0 : Nat) (P : List LT) (m0 n0 : Nat) (hn0e : n0 = P.length) (w : World) (hm0 : m0 ≤ w.heap.size) (hv : Prd m0 w (.slice a0 P.length cap0) P) (hpi : ∀ o, o ∈ P → ∀ z, z ∈ o.ps → InI z) :
    Calls Tryz.prog 4 #[pv cp (.slice a0 n0 cap0)] w fun e w' => ∃ lb c L, e = .returned (.pointer (some ⟨lb, 0, none⟩)) ∧ Ly w'.heap.size w' lb c L ∧ LOk c L ∧ L.length = min P.length 400 ∧ Lk c P L ∧ ((cp.Ok ∧ c = cp) ∨ (¬ cp.Ok ∧ c = pcfg)) ∧ Below w.heap.size w w' ∧ Lt w' lb c (tps c L) := by
  have HPI : Hid (∀ o, o ∈ P → ∀ z, z ∈ o.ps → InI z) := hpi
  have HV : Hid (Prd m0 w (.slice a0 P.length cap0) P) := hv
  have HN0 : Hid (n0 = P.length) := hn0e
  clear hv hn0e hpi
  go_enter Tryz.func4, Tryz.ntmps4
  go_upto_region 2 with fail
  have p0 := (Pd.new w cp (.slice a0 n0 cap0)).below (Below.alloc (Below.refl _ _) (Nat.le_refl _) (.cells (lzero cp) 56))
  have y0 := lw_new (w.alloc (.cells (pcells cp (.slice a0 n0 cap0)) 26)) cp
  have l0 : Below w.heap.size w ((w.alloc (.cells (pcells cp (.slice a0 n0 cap0)) 26)).alloc (.cells (lzero cp) 56)) := ((Below.refl _ w).alloc (Nat.le_refl _) _).alloc (by simp) _
  simp only [World.size_alloc] at y0
  obtain ⟨W, hW⟩ : ∃ W, W = (w.alloc (.cells (pcells cp (.slice a0 n0 cap0)) 26)).alloc (.cells (lzero cp) 56) := ⟨_, rfl⟩
  obtain ⟨B, hB⟩ : ∃ B, B = w.heap.size := ⟨_, rfl⟩
  rw [← hW] at p0 y0 l0
  rw [← hB] at p0 y0
  show Code.wp _ _ _ _ ((w.alloc (.cells (pcells cp (.slice a0 n0 cap0)) 26)).alloc (.cells (lzero cp) 56))
  rw [← hW, ← hB]
  have HP : Hid (Pd W B cp (.slice a0 n0 cap0)) := p0
  have HY : Hid (Lw W (B + 1) cp (.slice none 0 0) (.slice none 0 0) z5 z5 z5 0) := y0
  have HL : Hid (Below w.heap.size w W) := l0
  have HB : Hid (B = w.heap.size) := hB
  clear p0 y0 l0 hW hB
  have k0 : W.cell? ⟨B, 0, none⟩ = some (.int .i64 cp.eden) := HP.out.cell 0
  have k1 : W.cell? ⟨B, 1, none⟩ = some (.int .i64 cp.surv) := HP.out.cell 1
  have k2 : W.cell? ⟨B, 2, none⟩ = some (.int .i64 cp.ten) := HP.out.cell 2
  have k3 : W.cell? ⟨B, 3, none⟩ = some (.int .i64 cp.large) := HP.out.cell 3
  have k4 : W.cell? ⟨B, 4, none⟩ = some (.int .i64 cp.floor) := HP.out.cell 4
  have k5 : W.cell? ⟨B, 5, none⟩ = some (.int .i64 cp.num) := HP.out.cell 5
  have k6 : W.cell? ⟨B, 6, none⟩ = some (.int .i64 cp.den) := HP.out.cell 6
  have k7 : W.cell? ⟨B, 7, none⟩ = some (.int .i64 cp.target) := HP.out.cell 7
  have k8 : W.cell? ⟨B, 8, none⟩ = some (.int .i64 cp.maxAge) := HP.out.cell 8
  have k9 : W.cell? ⟨B, 9, none⟩ = some (.int .i64 cp.threads) := HP.out.cell 9
  have k10 : W.cell? ⟨B, 10, none⟩ = some (.int .i64 cp.slots) := HP.out.cell 10
  have k11 : W.cell? ⟨B, 11, none⟩ = some (.int .i64 cp.handles) := HP.out.cell 11
  have k12 : W.cell? ⟨B, 12, none⟩ = some (.int .i64 cp.buffer) := HP.out.cell 12
  have k13 : W.cell? ⟨B, 13, none⟩ = some (.int .i64 cp.workers) := HP.out.cell 13
  have hf := fits_any cp W
  go_wp2_with fail
  refine hf.mono ?_
  rintro e w2 ⟨d, rfl, hd, l2⟩
  have HP2 : Hid (Pd w2 B cp (.slice a0 n0 cap0)) := HP.out.below l2
  have HY2 : Hid (Lw w2 (B + 1) cp (.slice none 0 0) (.slice none 0 0) z5 z5 z5 0) := HY.out.of_block (l2.block _ HY.out.lt)
  have HL2 : Hid (Below w.heap.size w w2) := HL.out.trans (l2.mono HL.out.size)
  have Hd : Hid (d = true ↔ cp.Ok) := hd
  clear hf l2 hd HP HY HL k0 k1 k2 k3 k4 k5 k6 k7 k8 k9 k10 k11 k12 k13
  go_upto_region 3 with fail
  go_cut [23] from 22 to 23 (fun v23 wc => ∃ nb : Bool, v23 = .bool nb ∧ nb = !d ∧ w2 = wc)
  case first =>
    go_wp2_with fail
    go_meet
    exact ⟨_, rfl, rfl, rfl⟩
  case rest =>
  obtain ⟨nb, rfl, hnb, rfl⟩ := hcut
  have Hnb : Hid (nb = !d) := hnb
  clear hnb
  apply_assumption
  go_cut [] from 24 to 27 (fun wq => ∃ c : Cfg, Hid (c.Ok ∧ ((cp.Ok ∧ c = cp) ∨ (¬ cp.Ok ∧ c = pcfg))) ∧ Hid (Lw wq (B + 1) c (.slice none 0 0) (.slice none 0 0) z5 z5 z5 0) ∧ Hid (Pd wq B cp (.slice a0 n0 cap0)) ∧ Hid (Below w.heap.size w wq))
  case first =>
    by_cases hok : cp.Ok
    · obtain rfl : nb = false := by rw [Hnb.out, Hd.out.2 hok]; rfl
      have HK : Hid cp.Ok := hok
      clear hok
      go_wp2_with fail
      go_meet
      exact ⟨cp, (⟨HK.out, .inl ⟨HK.out, rfl⟩⟩ : cp.Ok ∧ ((cp.Ok ∧ cp = cp) ∨ (¬ cp.Ok ∧ cp = pcfg))), HY2, HP2, HL2⟩
    · obtain rfl : nb = true := by
        rw [Hnb.out]
        cases d
        · rfl
        · exact absurd (Hd.out.1 rfl) hok
      have HK : Hid (¬ cp.Ok) := hok
      have hp := plain_any w2
      clear hok
      go_wp2_with fail
      refine hp.mono ?_
      rintro e w3 ⟨rfl, l3⟩
      have HP3 : Hid (Pd w3 B cp (.slice a0 n0 cap0)) := HP2.out.below l3
      have y3 : Lw w3 (B + 1) cp (.slice none 0 0) (.slice none 0 0) z5 z5 z5 0 := HY2.out.of_block (l3.block _ HY2.out.lt)
      have HL3 : Hid (Below w.heap.size w w3) := HL2.out.trans (l3.mono HL2.out.size)
      have hth := lw_there y3 0 14 (by decide)
      have Hy3 : Hid (Lw w3 (B + 1) cp (.slice none 0 0) (.slice none 0 0) z5 z5 z5 0) := y3
      clear hp l3 y3 HP2 HY2 HL2
      go_wp2_with (refine wpList_store_mid rfl 23 _ _ rfl (B + 1) 0 (ccells pcfg) rfl rfl hth cinfo (by kernel_rfl) ?_)
      go_meet
      have q1 := lw_setc (c' := pcfg) Hy3.out
      have q2 : Pd (w3.setCells (B + 1) 0 (ccells pcfg).toList) B cp (.slice a0 n0 cap0) := ⟨(setCells_other (B + 1) _ _ _ B (by omega)).trans HP3.out.at_⟩
      have q3 : Below w.heap.size w (w3.setCells (B + 1) 0 (ccells pcfg).toList) := below_setCells HL3.out (by have := HB.out; omega) _ _
      exact ⟨pcfg, (⟨pcfg_ok, .inr ⟨HK.out, rfl⟩⟩ : pcfg.Ok ∧ ((cp.Ok ∧ pcfg = cp) ∨ (¬ cp.Ok ∧ pcfg = pcfg))), q1, q2, q3⟩
  case rest =>
  obtain ⟨c, Hok, HY3, HP3, HL3⟩ := hcut
  clear HP2 HY2 HL2 Hd Hnb
  apply_assumption
  have k0 : wc.cell? ⟨B + 1, 0, none⟩ = some (.int .i64 c.eden) := lw_cfg HY3.out 0 (by decide)
  have k1 : wc.cell? ⟨B + 1, 1, none⟩ = some (.int .i64 c.surv) := lw_cfg HY3.out 1 (by decide)
  have k2 : wc.cell? ⟨B + 1, 2, none⟩ = some (.int .i64 c.ten) := lw_cfg HY3.out 2 (by decide)
  have k3 : wc.cell? ⟨B + 1, 3, none⟩ = some (.int .i64 c.large) := lw_cfg HY3.out 3 (by decide)
  have k4 : wc.cell? ⟨B + 1, 4, none⟩ = some (.int .i64 c.floor) := lw_cfg HY3.out 4 (by decide)
  have k5 : wc.cell? ⟨B + 1, 5, none⟩ = some (.int .i64 c.num) := lw_cfg HY3.out 5 (by decide)
  have k6 : wc.cell? ⟨B + 1, 6, none⟩ = some (.int .i64 c.den) := lw_cfg HY3.out 6 (by decide)
  have k7 : wc.cell? ⟨B + 1, 7, none⟩ = some (.int .i64 c.target) := lw_cfg HY3.out 7 (by decide)
  have k8 : wc.cell? ⟨B + 1, 8, none⟩ = some (.int .i64 c.maxAge) := lw_cfg HY3.out 8 (by decide)
  have k9 : wc.cell? ⟨B + 1, 9, none⟩ = some (.int .i64 c.threads) := lw_cfg HY3.out 9 (by decide)
  have k10 : wc.cell? ⟨B + 1, 10, none⟩ = some (.int .i64 c.slots) := lw_cfg HY3.out 10 (by decide)
  have k11 : wc.cell? ⟨B + 1, 11, none⟩ = some (.int .i64 c.handles) := lw_cfg HY3.out 11 (by decide)
  have k12 : wc.cell? ⟨B + 1, 12, none⟩ = some (.int .i64 c.buffer) := lw_cfg HY3.out 12 (by decide)
  have k13 : wc.cell? ⟨B + 1, 13, none⟩ = some (.int .i64 c.workers) := lw_cfg HY3.out 13 (by decide)
  go_upto_region 6 with fail
  clear k0 k1 k2 k3 k4 k5 k6 k7 k8 k9 k10 k11 k12 k13
  have f0 := Cfd.new wc c
  have l4 : Below wc.heap.size wc (wc.alloc (.cells (ccells c) 23)) := Below.alloc (Below.refl _ _) (Nat.le_refl _) _
  have HY4 : Hid (Lw (wc.alloc (.cells (ccells c) 23)) (B + 1) c (.slice none 0 0) (.slice none 0 0) z5 z5 z5 0) := HY3.out.of_block (l4.block _ HY3.out.lt)
  have HP4 : Hid (Pd (wc.alloc (.cells (ccells c) 23)) B cp (.slice a0 n0 cap0)) := HP3.out.below l4
  have HL4 : Hid (Below w.heap.size w (wc.alloc (.cells (ccells c) 23))) := HL3.out.trans (l4.mono HL3.out.size)
  have hCb : B + 1 < wc.heap.size := HY3.out.lt
  obtain ⟨Cb, hCbe⟩ : ∃ Cb, Cb = wc.heap.size := ⟨_, rfl⟩
  obtain ⟨v4, hv4⟩ : ∃ v4, v4 = wc.alloc (.cells (ccells c) 23) := ⟨_, rfl⟩
  rw [← hv4] at f0 HY4 HP4 HL4 ⊢
  rw [← hCbe] at f0 hCb ⊢
  clear l4 hCbe hv4 HY3 HP3 HL3
  obtain ⟨be0, be1, bs0, bs1, bt0, bt1⟩ : 64 ≤ c.eden ∧ c.eden ≤ 65536 ∧ 64 ≤ c.surv ∧ c.surv ≤ 65536 ∧ 64 ≤ c.ten ∧ c.ten ≤ 65536 := ⟨Hok.out.1.e0, Hok.out.1.e1, Hok.out.1.s0, Hok.out.1.s1, Hok.out.1.t0, Hok.out.1.t1⟩
  have HF : Hid (Cfd v4 Cb c) := f0
  have g0 : v4.cell? ⟨Cb, 0, none⟩ = some (.int .i64 c.eden) := f0.cell 0
  have g1 : v4.cell? ⟨Cb, 1, none⟩ = some (.int .i64 c.surv) := f0.cell 1
  have hth := lw_there HY4.out 16 5 (by decide)
  clear f0
  go_upto_region 7 with (refine wpList_store_mid rfl 54 _ _ rfl (B + 1) 16 (five (firsts c)) rfl rfl hth linfo5 (by kernel_rfl) ?_)
  clear g0 g1 hth
  have HY5 : Hid (Lw (v4.setCells (B + 1) 16 (five (firsts c)).toList) (B + 1) c (.slice none 0 0) (.slice none 0 0) (firsts c) z5 z5 0) := lw_setF HY4.out
  have HP5 : Hid (Pd (v4.setCells (B + 1) 16 (five (firsts c)).toList) B cp (.slice a0 n0 cap0)) := ⟨(setCells_other (B + 1) _ _ _ B (by omega)).trans HP4.out.at_⟩
  have HF5 : Hid (Cfd (v4.setCells (B + 1) 16 (five (firsts c)).toList) Cb c) := ⟨(setCells_other (B + 1) _ _ _ Cb (by omega)).trans HF.out.at_⟩
  have HL5 : Hid (Below w.heap.size w (v4.setCells (B + 1) 16 (five (firsts c)).toList)) := below_setCells HL4.out (by have := HB.out; omega) _ _
  generalize v4.setCells (B + 1) 16 (five (firsts c)).toList = v5 at *
  clear HY4 HP4 HF HL4
  have g0 : v5.cell? ⟨Cb, 0, none⟩ = some (.int .i64 c.eden) := HF5.out.cell 0
  have g1 : v5.cell? ⟨Cb, 1, none⟩ = some (.int .i64 c.surv) := HF5.out.cell 1
  have g2 : v5.cell? ⟨Cb, 2, none⟩ = some (.int .i64 c.ten) := HF5.out.cell 2
  have hth := lw_there HY5.out 26 5 (by decide)
  go_upto_region 8 with (refine wpList_store_mid rfl 54 _ _ rfl (B + 1) 26 (five (endsf c)) rfl rfl hth linfo5 (by kernel_rfl) ?_)
  clear g0 g1 g2 hth
  have HY6 : Hid (Lw (v5.setCells (B + 1) 26 (five (endsf c)).toList) (B + 1) c (.slice none 0 0) (.slice none 0 0) (firsts c) z5 (endsf c) 0) := lw_setE HY5.out
  have HP6 : Hid (Pd (v5.setCells (B + 1) 26 (five (endsf c)).toList) B cp (.slice a0 n0 cap0)) := ⟨(setCells_other (B + 1) _ _ _ B (by omega)).trans HP5.out.at_⟩
  have HL6 : Hid (Below w.heap.size w (v5.setCells (B + 1) 26 (five (endsf c)).toList)) := below_setCells HL5.out (by have := HB.out; omega) _ _
  generalize v5.setCells (B + 1) 26 (five (endsf c)).toList = v6 at *
  clear HY5 HP5 HF5 HL5
  have hth := lw_there HY6.out 21 5 (by decide)
  have hrg : v6.rangeAt (B + 1) 16 (five (firsts c)).toList := fun j u hj => by
    have hjl := (List.getElem?_eq_some_iff.1 hj).1
    have hjl5 : j < 5 := hjl
    rw [HY6.out.cell (i := 16 + j) (by omega)]
    match j, hjl5 with
    | 0, _ | 1, _ | 2, _ | 3, _ | 4, _ => simpa [lyg] using hj
  go_upto_region 9 with (first | (refine wpList_load_mid rfl 54 _ rfl (B + 1) 16 rfl (five (firsts c)).toList _ hrg Tryz.underlying54 rfl linfo5 ?_) | (refine wpList_store_mid rfl 54 _ _ rfl (B + 1) 21 (five (firsts c)) rfl rfl hth linfo5 (by kernel_rfl) ?_))
  clear hth hrg
  have HY7 : Hid (Lw (v6.setCells (B + 1) 21 (five (firsts c)).toList) (B + 1) c (.slice none 0 0) (.slice none 0 0) (firsts c) (firsts c) (endsf c) 0) := lw_setT HY6.out
  have HP7 : Hid (Pd (v6.setCells (B + 1) 21 (five (firsts c)).toList) B cp (.slice a0 n0 cap0)) := ⟨(setCells_other (B + 1) _ _ _ B (by omega)).trans HP6.out.at_⟩
  have HL7 : Hid (Below w.heap.size w (v6.setCells (B + 1) 21 (five (firsts c)).toList)) := below_setCells HL6.out (by have := HB.out; omega) _ _
  generalize v6.setCells (B + 1) 21 (five (firsts c)).toList = v7 at *
  clear HY6 HP6 HL6
  have e30 : v7.cell? ⟨B + 1, 30, none⟩ = some (.int .i64 (endsf c 4)) := HY7.out.cell (i := 30) (by decide)
  have e31 : v7.cell? ⟨B + 1, 31, none⟩ = some (.int .i64 0) := HY7.out.cell (i := 31) (by decide)
  have f31 := HY7.out.frozen 31
  generalize hq4 : endsf c 4 = q4 at e30
  have Hq4 : Hid (endsf c 4 = q4) := hq4
  clear hq4
  go_upto_region 10 with fail
  have HY8 : Hid (Lw (v7.setCell ⟨B + 1, 31, none⟩ (.int .i64 q4)) (B + 1) c (.slice none 0 0) (.slice none 0 0) (firsts c) (topf (tops0 c)) (endsf c) q4) := (HY7.out.set 31 (.int .i64 q4)).congr (fun j hj => by
    rw [← firsts_top]
    by_cases e : j = 31
    · subst e
      rw [if_pos rfl]
      rfl
    · rw [if_neg e]
      unfold lyg
      repeat' split
      all_goals first | rfl | omega)
  have HP8 : Hid (Pd (v7.setCell ⟨B + 1, 31, none⟩ (.int .i64 q4)) B cp (.slice a0 n0 cap0)) := ⟨(Below.heap_setCell _ _ _ _ (by show B ≠ B + 1; omega)).trans HP7.out.at_⟩
  have HL8 : Hid (Below w.heap.size w (v7.setCell ⟨B + 1, 31, none⟩ (.int .i64 q4))) := Below.setCell (p := ⟨B + 1, 31, none⟩) HL7.out (by have := HB.out; simp only; omega) _
  generalize v7.setCell ⟨B + 1, 31, none⟩ (.int .i64 q4) = v8 at *
  clear HY7 HP7 HL7 e30 e31 f31
  go_wp2
  have HQ : Hid (Fq w v8 B cp c (.slice a0 n0 cap0) (.slice none 0 0) (.slice none 0 0) [] (tps c []) q4) := ⟨HY8.out, HP8.out, Lf.nil _, HL8.out, by have := HB.out; omega, fun y hy => by simp [Value.ownBlock] at hy, fun y hy => by simp [Value.ownBlock] at hy, fun T hT => by simp at hT⟩
  clear HY8 HP8 HL8
  go_loopw [6] (fun v6 wr => ∃ k : Nat, k ≤ n0 ∧ k ≤ 400 ∧ v6 = .int .i64 k ∧ ∃ tv av L, Hid (Fq w wr B cp c (.slice a0 n0 cap0) tv av L (tps c L) q4) ∧ Hid (L.length = k ∧ Lk c P L)) (fun v6 _ => 400 - (intOf v6).toNat)
  case atStart => exact ⟨0, Nat.zero_le _, by omega, rfl, .slice none 0 0, .slice none 0 0, [], HQ, (⟨rfl, Lk.nil c P⟩ : ([] : List LT).length = 0 ∧ Lk c P [])⟩
  case round =>
    obtain ⟨k, hk, hk4, rfl, tv, av, L, HQr, HLk⟩ := hrel
    clear HQ
    have e14 : wr.cell? ⟨B, 14, none⟩ = some (.slice a0 n0 cap0) := HQr.out.pd.cell 14
    go_upto_region 11 with fail
    go_cut [105] from 97 to 104 (fun v105 wc => ∃ nb : Bool, v105 = .bool nb ∧ nb = decide (k < n0 ∧ k < 400) ∧ wr = wc)
    case first =>
      by_cases hkl : k < n0
      · have hkI : (k : Int) < (n0 : Int) := by omega
        by_cases hk400 : k < 400
        · have hk4I : (k : Int) < 400 := by omega
          go_wp2_with fail
          go_meet
          exact ⟨_, rfl, (decide_eq_true ⟨hkl, hk400⟩).symm, rfl⟩
        · have hk4I : ¬ (k : Int) < 400 := by omega
          go_wp2_with fail
          go_meet
          exact ⟨_, rfl, (decide_eq_false (fun h => hk400 h.2)).symm, rfl⟩
      · have hkI : ¬ (k : Int) < (n0 : Int) := by omega
        go_wp2_with fail
        go_meet
        exact ⟨_, rfl, (decide_eq_false (fun h => hkl h.1)).symm, rfl⟩
    case rest =>
    obtain ⟨nb0, rfl, hnb0, rfl⟩ := hcut
    have Hnb0 : Hid (nb0 = decide (k < n0 ∧ k < 400)) := hnb0
    clear hnb0
    apply_assumption
    by_cases hkk : k < n0 ∧ k < 400
    · obtain rfl : nb0 = true := by rw [Hnb0.out]; exact decide_eq_true hkk
      obtain ⟨hkl, hk400⟩ := hkk
      clear Hnb0
      obtain ⟨T, ho⟩ : ∃ T, P[k]? = some T := ⟨_, List.getElem?_eq_getElem (by have := HN0.out; omega)⟩
      obtain ⟨a9, cap9, e9, hP⟩ := HV.out.below (HQr.out.be.mono hm0)
      obtain ⟨hIn, hlp, hlr, q, off, e8, hq, cs⟩ := hP k T ho
      simp only [Value.slice.injEq] at e9
      rw [← e9.1] at e8
      subst e8
      obtain ⟨sp, sn, kd, pn, rn, ag, st, hd, vp, vr, fl, ps, rs, at0⟩ := T
      obtain ⟨p1, p3, hvp, hp3, hpc⟩ := hlp
      obtain ⟨r1, r3, hvr, hr3, hrc⟩ := hlr
      simp only at hvp hvr hp3 hr3 hpc hrc
      subst hvp hvr
      have Ho : Hid (P[k]? = some ⟨sp, sn, kd, pn, rn, ag, st, hd, .slice p1 ps.length p3, .slice r1 rs.length r3, fl, ps, rs, at0⟩) := ho
      have HIn : Hid ((LT.mk sp sn kd pn rn ag st hd (.slice p1 ps.length p3) (.slice r1 rs.length r3) fl ps rs at0).In ∧ Lrd m0 wr (.slice p1 ps.length p3) .i64 ps ∧ Lrd m0 wr (.slice r1 rs.length r3) .u64 rs) := ⟨hIn, ⟨p1, p3, rfl, hp3, hpc⟩, ⟨r1, r3, rfl, hr3, hrc⟩⟩
      have d0 : wr.cell? ⟨q, off + k * 11, none⟩ = some (.int .i64 sp) := cs 0 (by decide)
      have d1 : wr.cell? ⟨q, off + k * 11 + 1, none⟩ = some (.int .u64 sn) := cs 1 (by decide)
      have d2 : wr.cell? ⟨q, off + k * 11 + 2, none⟩ = some (.int .i64 kd) := cs 2 (by decide)
      have d3 : wr.cell? ⟨q, off + k * 11 + 3, none⟩ = some (.int .i64 pn) := cs 3 (by decide)
      have d4 : wr.cell? ⟨q, off + k * 11 + 4, none⟩ = some (.int .i64 rn) := cs 4 (by decide)
      have d5 : wr.cell? ⟨q, off + k * 11 + 5, none⟩ = some (.int .i64 ag) := cs 5 (by decide)
      have d6 : wr.cell? ⟨q, off + k * 11 + 6, none⟩ = some (.int .i64 st) := cs 6 (by decide)
      have d7 : wr.cell? ⟨q, off + k * 11 + 7, none⟩ = some (.bool hd) := cs 7 (by decide)
      have d8 : wr.cell? ⟨q, off + k * 11 + 8, none⟩ = some (.slice p1 ps.length p3) := cs 8 (by decide)
      have d9 : wr.cell? ⟨q, off + k * 11 + 9, none⟩ = some (.slice r1 rs.length r3) := cs 9 (by decide)
      have d10 : wr.cell? ⟨q, off + k * 11 + 10, none⟩ = some (.int .i64 fl) := cs 10 (by decide)
      have hkI : (k : Int) < (n0 : Int) := by omega
      have hk4I : (k : Int) < 400 := by omega
      clear cs hP hIn e9 ho hpc hrc
      go_upto_region 14 with fail
      clear d0 d1 d2 d3 d4 d5 d6 d7 d8 d9 d10
      have C1 := Lc.new wr ⟨sp, sn, kd, pn, rn, ag, st, hd, .slice p1 ps.length p3, .slice r1 rs.length r3, fl, ps, rs, at0⟩
      have b1 : Below wr.heap.size wr (wr.alloc (.cells (lcells sp sn kd pn rn ag st hd (.slice p1 ps.length p3) (.slice r1 rs.length r3) fl) 63)) := Below.alloc (Below.refl _ _) (Nat.le_refl _) _
      obtain ⟨v1, hv1⟩ : ∃ v1, v1 = wr.alloc (.cells (lcells sp sn kd pn rn ag st hd (.slice p1 ps.length p3) (.slice r1 rs.length r3) fl) 63) := ⟨_, rfl⟩
      obtain ⟨R, hR⟩ : ∃ R, R = wr.heap.size := ⟨_, rfl⟩
      have C1' : Lc v1 R ⟨sp, sn, kd, pn, rn, ag, st, hd, .slice p1 ps.length p3, .slice r1 rs.length r3, fl, ps, rs, at0⟩ := by rw [hv1, hR]; exact C1
      rw [← hv1] at b1 ⊢
      rw [← hR]
      have HR : Hid (R = wr.heap.size) := hR
      have HC1 : Hid (Lc v1 R ⟨sp, sn, kd, pn, rn, ag, st, hd, .slice p1 ps.length p3, .slice r1 rs.length r3, fl, ps, rs, at0⟩) := C1'
      have HB1 : Hid (Below wr.heap.size wr v1) := b1
      clear C1 C1' b1 hv1 hR e14
      obtain ⟨z1, hz1⟩ : ∃ z, wrap64 (sp - 1) = z := ⟨_, rfl⟩
      have ha1 := among_any z1 4 (by rw [← hz1]; exact wrap_in _) (by omega) v1
      have ha1b := amg_in z1 4 (by omega)
      have Hz1 : Hid (amg z1 4 = amg (wrap64 (sp - 1)) 4) := by rw [hz1]; rfl
      generalize amg z1 4 = a1 at ha1 ha1b Hz1
      have d0 : v1.cell? ⟨R, 0, none⟩ = some (.int .i64 sp) := HC1.out.cell 0
      have f0 := HC1.out.frozen 0
      go_wp2_with fail
      refine ha1.mono ?_
      rintro e w4 ⟨rfl, rfl⟩
      clear ha1 hz1
      go_upto_region 15 with fail
      clear d0 f0
      have HC2 : Hid (Lc (w4.setCell ⟨R, 0, none⟩ (.int .i64 (1 + a1))) R ⟨1 + a1, sn, kd, pn, rn, ag, st, hd, .slice p1 ps.length p3, .slice r1 rs.length r3, fl, ps, rs, at0⟩) := HC1.out.setS (1 + a1)
      have HB2 : Hid (Below wr.heap.size wr (w4.setCell ⟨R, 0, none⟩ (.int .i64 (1 + a1)))) := Below.setCell (p := ⟨R, 0, none⟩) HB1.out (by have := HR.out; simp only; omega) _
      generalize w4.setCell ⟨R, 0, none⟩ (.int .i64 (1 + a1)) = v2 at HC2 HB2 ⊢
      clear HC1 HB1
      have d8 : v2.cell? ⟨R, 8, none⟩ = some (.slice p1 ps.length p3) := HC2.out.cell 8
      obtain ⟨i0, hi0, hz0, hz10, hz2⟩ := info_parts Tryz.infoInt
      have HI : Hid (Tryz.prog.info? 3 = some i0 ∧ i0.zero = some (.int .i64 0) ∧ i0.size = 1 ∧ i0.bytes = 8) := ⟨hi0, hz0, hz10, hz2⟩
      clear hi0 hz0 hz10 hz2
      obtain ⟨m1, hm1⟩ : ∃ m : Nat, (if 60 < (ps.length : Int) then (60 : Int) else (ps.length : Int)) = (m : Int) := ⟨min ps.length 60, by split <;> omega⟩
      have Hm1 : Hid (m1 = min ps.length 60) := (by split at hm1 <;> omega : m1 = min ps.length 60)
      have hm1a : m1 ≤ p3 := by have := Hm1.out; omega
      have hm1b : m1 ≤ 60 := by have := Hm1.out; omega
      obtain ⟨ps1, hps1⟩ : ∃ l, l = ps.take m1 := ⟨_, rfl⟩
      have Hps1 : Hid (ps1 = ps.take m1) := hps1
      have Hl1 : Hid (ps1.length = m1) := (by rw [hps1, List.length_take]; have := Hm1.out; omega : ps1.length = m1)
      have Hrp : Hid (Lrd m0 v2 (.slice p1 m1 p3) .i64 ps1) := (by rw [hps1]; exact (HIn.out.2.1.below (HB2.out.mono (Nat.le_trans hm0 HQr.out.be.size))).take m1 (by have := Hm1.out; omega))
      clear hps1
      go_upto_region 16 with (at_builtin; refine wpList_append_copy rfl _ _ 27 rfl .i64 3 i0 8 Tryz.underlying27 HI.out.1 HI.out.2.1 HI.out.2.2.1 HI.out.2.2.2 (by decide) rfl (.slice p1 m1 p3) ps1 m0 rfl Hrp.out (by have := Hl1.out; omega) ?_; intro u1 v3 hown1 hbel1; have C3 := HC2.out.below hbel1; have d8' : v3.cell? ⟨R, 8, none⟩ = some (.slice p1 ps.length p3) := C3.cell 8; have f8 := C3.frozen 8; rw [Hl1.out] at hown1; obtain ⟨g1, c1, rfl⟩ := own_sl hown1)
      have HC3 : Hid (Lc (v3.setCell ⟨R, 8, none⟩ (.slice g1 m1 c1)) R ⟨1 + a1, sn, kd, pn, rn, ag, st, hd, .slice g1 m1 c1, .slice r1 rs.length r3, fl, ps1, rs, at0⟩) := C3.setP _ ps1
      have hlow : ∀ y, (Value.slice g1 m1 c1).ownBlock = some y → wr.heap.size < y ∧ y < v3.heap.size := fun y hy => ⟨by
        have h1 := row_base hown1 y hy
        have h2 := HC2.out.lt
        have h3 := HR.out
        omega, row_lt hown1 y hy⟩
      have HW3 : Hid ((v3.setCell ⟨R, 8, none⟩ (.slice g1 m1 c1)).ownsRow 0 3 1 (.slice g1 m1 c1) m1 (ints ps1)) := (row_zero (row_keep hown1 (fun y hy => Below.heap_setCell _ _ _ _ (by have := hlow y hy; have := HR.out; show y ≠ R; omega))))
      have HF3 : Hid (∀ y, (Value.slice g1 m1 c1).ownBlock = some y → wr.heap.size < y) := fun y hy => (hlow y hy).1
      have HB3 : Hid (Below wr.heap.size wr (v3.setCell ⟨R, 8, none⟩ (.slice g1 m1 c1))) := Below.setCell (p := ⟨R, 8, none⟩) (HB2.out.trans (hbel1.mono HB2.out.size)) (by have := HR.out; simp only; omega) _
      generalize v3.setCell ⟨R, 8, none⟩ (.slice g1 m1 c1) = v4 at HC3 HW3 HB3 ⊢
      clear HC2 HB2 C3 d8 d8' f8 hown1 hbel1 hlow Hrp hm1 hm1a v3
      obtain ⟨i1, hi0, hz0, hz10, hz2⟩ := info_parts Tryz.infoU64
      have HJ : Hid (Tryz.prog.info? 58 = some i1 ∧ i1.zero = some (.int .u64 0) ∧ i1.size = 1 ∧ i1.bytes = 8) := ⟨hi0, hz0, hz10, hz2⟩
      clear hi0 hz0 hz10 hz2
      obtain ⟨m2, hm2⟩ : ∃ m : Nat, (if 60 < (rs.length : Int) then (60 : Int) else (rs.length : Int)) = (m : Int) := ⟨min rs.length 60, by split <;> omega⟩
      have Hm2 : Hid (m2 = min rs.length 60) := (by split at hm2 <;> omega : m2 = min rs.length 60)
      have hm2a : m2 ≤ r3 := by have := Hm2.out; omega
      have hm2b : m2 ≤ 60 := by have := Hm2.out; omega
      obtain ⟨rs1, hrs1⟩ : ∃ l, l = rs.take m2 := ⟨_, rfl⟩
      have Hrs1 : Hid (rs1 = rs.take m2) := hrs1
      have Hl2 : Hid (rs1.length = m2) := (by rw [hrs1, List.length_take]; have := Hm2.out; omega : rs1.length = m2)
      have Hrr : Hid (Lrd m0 v4 (.slice r1 m2 r3) .u64 rs1) := (by rw [hrs1]; exact (HIn.out.2.2.below (HB3.out.mono (Nat.le_trans hm0 HQr.out.be.size))).take m2 (by have := Hm2.out; omega))
      clear hrs1
      have d9 : v4.cell? ⟨R, 9, none⟩ = some (.slice r1 rs.length r3) := HC3.out.cell 9
      go_upto_region 17 with (at_builtin; refine wpList_append_copy rfl _ _ 61 rfl .u64 58 i1 8 Tryz.underlying61 HJ.out.1 HJ.out.2.1 HJ.out.2.2.1 HJ.out.2.2.2 (by decide) rfl (.slice r1 m2 r3) rs1 m0 rfl Hrr.out (by have := Hl2.out; omega) ?_; intro u2 v5 hown2 hbel2; have C4 := HC3.out.below hbel2; have d9' : v5.cell? ⟨R, 9, none⟩ = some (.slice r1 rs.length r3) := C4.cell 9; have f9 := C4.frozen 9; rw [Hl2.out] at hown2; obtain ⟨g2, c2, rfl⟩ := own_sl hown2)
      have HC5 : Hid (Lc (v5.setCell ⟨R, 9, none⟩ (.slice g2 m2 c2)) R ⟨1 + a1, sn, kd, pn, rn, ag, st, hd, .slice g1 m1 c1, .slice g2 m2 c2, fl, ps1, rs1, at0⟩) := C4.setR _ rs1
      have hlow2 : ∀ y, (Value.slice g2 m2 c2).ownBlock = some y → y ≠ R := fun y hy => by
        have h1 := row_base hown2 y hy
        have h2 := HC3.out.lt
        omega
      have hne1 : ∀ y, (Value.slice g1 m1 c1).ownBlock = some y → y ≠ R := fun y hy => by
        have h1 := HF3.out y hy
        have h2 := HR.out
        omega
      have HW5 : Hid ((v5.setCell ⟨R, 9, none⟩ (.slice g2 m2 c2)).ownsRow 0 3 1 (.slice g1 m1 c1) m1 (ints ps1) ∧ (v5.setCell ⟨R, 9, none⟩ (.slice g2 m2 c2)).ownsRow 0 58 1 (.slice g2 m2 c2) m2 (words rs1)) := ⟨row_keep HW3.out (fun y hy => (Below.heap_setCell _ _ _ _ (hne1 y hy)).trans (hbel2.block y (row_lt HW3.out y hy))), row_zero (row_keep hown2 (fun y hy => Below.heap_setCell _ _ _ _ (hlow2 y hy)))⟩
      have HB5 : Hid (Below wr.heap.size wr (v5.setCell ⟨R, 9, none⟩ (.slice g2 m2 c2))) := Below.setCell (p := ⟨R, 9, none⟩) (HB3.out.trans (hbel2.mono HB3.out.size)) (by have := HR.out; simp only; omega) _
      generalize v5.setCell ⟨R, 9, none⟩ (.slice g2 m2 c2) = v6 at HC5 HW5 HB5 ⊢
      clear HC3 HB3 HW3 C4 d9 d9' f9 hown2 hbel2 hlow2 hne1 Hrr hm2 hm2a v5
      have d1 : v6.cell? ⟨R, 1, none⟩ = some (.int .u64 sn) := HC5.out.cell 1
      have d2 : v6.cell? ⟨R, 2, none⟩ = some (.int .i64 kd) := HC5.out.cell 2
      have d3 : v6.cell? ⟨R, 3, none⟩ = some (.int .i64 pn) := HC5.out.cell 3
      have d4 : v6.cell? ⟨R, 4, none⟩ = some (.int .i64 rn) := HC5.out.cell 4
      have d5 : v6.cell? ⟨R, 5, none⟩ = some (.int .i64 ag) := HC5.out.cell 5
      have d6 : v6.cell? ⟨R, 6, none⟩ = some (.int .i64 st) := HC5.out.cell 6
      have d7 : v6.cell? ⟨R, 7, none⟩ = some (.bool hd) := HC5.out.cell 7
      go_upto_region 18 with fail
      clear d1 d2 d3 d4 d5 d6 d7
      have b7 : Below v6.heap.size v6 (v6.alloc (.cells (hcells sn kd pn rn ag st hd) 60)) := Below.alloc (Below.refl _ _) (Nat.le_refl _) _
      have h7 : (v6.alloc (.cells (hcells sn kd pn rn ag st hd) 60)).heap[v6.heap.size]? = some (.cells (hcells sn kd pn rn ag st hd) 60 (0, 0)) := heap_alloc_new v6 _
      have HC7 : Hid (Lc (v6.alloc (.cells (hcells sn kd pn rn ag st hd) 60)) R ⟨1 + a1, sn, kd, pn, rn, ag, st, hd, .slice g1 m1 c1, .slice g2 m2 c2, fl, ps1, rs1, at0⟩) := HC5.out.below b7
      have HW7 : Hid ((v6.alloc (.cells (hcells sn kd pn rn ag st hd) 60)).ownsRow 0 3 1 (.slice g1 m1 c1) m1 (ints ps1) ∧ (v6.alloc (.cells (hcells sn kd pn rn ag st hd) 60)).ownsRow 0 58 1 (.slice g2 m2 c2) m2 (words rs1)) := ⟨HW5.out.1.alloc _, HW5.out.2.alloc _⟩
      have HB7 : Hid (Below wr.heap.size wr (v6.alloc (.cells (hcells sn kd pn rn ag st hd) 60))) := HB5.out.trans (b7.mono HB5.out.size)
      generalize v6.alloc (.cells (hcells sn kd pn rn ag st hd) 60) = v7 at h7 HC7 HW7 HB7 ⊢
      generalize v6.heap.size = R2 at h7 ⊢
      clear HC5 HB5 HW5 b7 v6
      have e0 : v7.cell? ⟨R2, 0, none⟩ = some (.int .u64 sn) := cell_of_row _ _ 0 _ _ _ h7
      have e1 : v7.cell? ⟨R2, 1, none⟩ = some (.int .i64 kd) := cell_of_row _ _ 1 _ _ _ h7
      have e4 : v7.cell? ⟨R2, 4, none⟩ = some (.int .i64 ag) := cell_of_row _ _ 4 _ _ _ h7
      have e5 : v7.cell? ⟨R2, 5, none⟩ = some (.int .i64 st) := cell_of_row _ _ 5 _ _ _ h7
      have e6 : v7.cell? ⟨R2, 6, none⟩ = some (.bool hd) := cell_of_row _ _ 6 _ _ _ h7
      have e8 : v7.cell? ⟨R, 8, none⟩ = some (.slice g1 m1 c1) := HC7.out.cell 8
      have e9 : v7.cell? ⟨R, 9, none⟩ = some (.slice g2 m2 c2) := HC7.out.cell 9
      have hk1 := kind_is kd (m1 : Int) v7.drew
      have Hkd : Hid (KdOk (kdf kd (m1 : Int)) (m1 : Int)) := kdf_ok kd _
      generalize kdf kd (m1 : Int) = kd2 at hk1 Hkd
      have hg1 := among_any ag 16 HIn.out.1.a (by omega) v7.drew
      have hg1b := amg_in ag 16 (by omega)
      generalize amg ag 16 = a2 at hg1 hg1b
      have hg2 := among_any st 256 HIn.out.1.t (by omega) v7.drew
      have hg2b := amg_in st 256 (by omega)
      generalize amg st 256 = a3 at hg2 hg2b
      have HC7d : Hid (Lc v7.drew R ⟨1 + a1, sn, kd, pn, rn, ag, st, hd, .slice g1 m1 c1, .slice g2 m2 c2, fl, ps1, rs1, at0⟩) := HC7.out.below (below_drewN (Below.refl _ _) 1)
      have hth := HC7d.out.there 1 7 (by decide)
      clear h7
      go_wp2_with fail
      refine quiet_tail 24 mixed (by kernel_rfl) ?_
      simp only [List.take_succ_cons, List.take_zero, List.drop_succ_cons, List.drop_zero]
      iterate 7 (go_big_quiet_step (fail))
      go_big_quiet_step (exact hk1 _)
      iterate 8 (go_big_quiet_step (fail))
      go_big_quiet_step (exact hg1 _)
      iterate 2 (go_big_quiet_step (fail))
      go_big_quiet_step (exact hg2 _)
      iterate 4 (go_big_quiet_step (fail))
      refine wpQuiet_nil ?_
      go_upto_region 19 with (refine wpList_store_mid rfl 60 _ _ rfl R 1 (hcells sn kd2 m1 m2 a2 a3 hd) rfl rfl hth (by kernel_rfl) (by kernel_rfl) ?_)
      have HC8 : Hid (Lc (v7.drew.setCells R 1 (hcells sn kd2 m1 m2 a2 a3 hd).toList) R ⟨1 + a1, sn, kd2, m1, m2, a2, a3, hd, .slice g1 m1 c1, .slice g2 m2 c2, fl, ps1, rs1, at0⟩) := HC7d.out.setH sn kd2 m1 m2 a2 a3 hd
      have HB8 : Hid (Below wr.heap.size wr (v7.drew.setCells R 1 (hcells sn kd2 m1 m2 a2 a3 hd).toList)) := below_setCells (HB7.out.trans ((below_drewN (Below.refl v7.heap.size v7) 1).mono HB7.out.size)) (by have := HR.out; omega) _ _
      have HW8 : Hid ((v7.drew.setCells R 1 (hcells sn kd2 m1 m2 a2 a3 hd).toList).ownsRow 0 3 1 (.slice g1 m1 c1) m1 (ints ps1) ∧ (v7.drew.setCells R 1 (hcells sn kd2 m1 m2 a2 a3 hd).toList).ownsRow 0 58 1 (.slice g2 m2 c2) m2 (words rs1)) := ⟨row_keep HW7.out.1 (fun y hy => setCells_other R _ _ _ y (by have := HF3.out y hy; have := HR.out; omega)), row_keep HW7.out.2 (fun y hy => setCells_other R _ _ _ y (fun e => row_ne HC7.out.at_ HW7.out.2 (by decide) (by rw [← e]; exact hy.symm)))⟩
      generalize v7.drew.setCells R 1 (hcells sn kd2 m1 m2 a2 a3 hd).toList = v8' at HC8 HB8 HW8 ⊢
      clear e0 e1 e4 e5 e6 e8 e9 hk1 hg1 hg2 HC7 HC7d HB7 HW7 hth v7
      have d8 : v8'.cell? ⟨R, 8, none⟩ = some (.slice g1 m1 c1) := HC8.out.cell 8
      have d9 : v8'.cell? ⟨R, 9, none⟩ = some (.slice g2 m2 c2) := HC8.out.cell 9
      have d10 : v8'.cell? ⟨R, 10, none⟩ = some (.int .i64 fl) := HC8.out.cell 10
      have hflb : -9223372036854775808 ≤ fl ∧ fl ≤ 9223372036854775807 := HIn.out.1.fill
      go_upto_region 20 with fail
      go_cut [173] from 171 to 173 (fun v173 wc => ∃ nb : Bool, v173 = .bool nb ∧ nb = decide (0 < fl) ∧ v8' = wc)
      case first =>
        go_wp2_with fail
        go_meet
        exact ⟨_, rfl, rfl, rfl⟩
      case rest =>
      obtain ⟨nb1, rfl, hnb1, rfl⟩ := hcut
      have Hnb1 : Hid (nb1 = decide (0 < fl)) := hnb1
      clear hnb1
      apply_assumption
      go_cut [9] from 174 to 186 (fun v9 wc => ∃ (T5 : LT) (n5 : Int), v9 = .int .i64 n5 ∧ Hid (n5 = T5.sz) ∧ Hid (Ft ⟨sp, sn, kd, pn, rn, ag, st, hd, .slice p1 ps.length p3, .slice r1 rs.length r3, fl, ps, rs, at0⟩ T5) ∧ Hid (Fr wr wc R T5))
      case first =>
        by_cases hf : 0 < fl
        · obtain rfl : nb1 = true := by rw [Hnb1.out]; exact decide_eq_true hf
          have f8 := HC8.out.frozen 8
          have f9 := HC8.out.frozen 9
          have HC9 : Hid (Lc ((v8'.setCell ⟨R, 8, none⟩ (.slice none 0 0)).setCell ⟨R, 9, none⟩ (.slice none 0 0)) R ⟨1 + a1, sn, kd2, m1, m2, a2, a3, hd, .slice none 0 0, .slice none 0 0, fl, [], [], at0⟩) := (HC8.out.setP (.slice none 0 0) []).setR (.slice none 0 0) []
          have hth := HC9.out.there 1 7 (by decide)
          go_upto_region 22 with (refine wpList_store_mid rfl 60 _ _ rfl R 1 (hcells 0 0 0 0 0 0 false) rfl rfl hth (by kernel_rfl) (by kernel_rfl) ?_)
          have HC10 : Hid (Lc (((v8'.setCell ⟨R, 8, none⟩ (.slice none 0 0)).setCell ⟨R, 9, none⟩ (.slice none 0 0)).setCells R 1 (hcells 0 0 0 0 0 0 false).toList) R ⟨1 + a1, 0, 0, 0, 0, 0, 0, false, .slice none 0 0, .slice none 0 0, fl, [], [], at0⟩) := HC9.out.setH 0 0 0 0 0 0 false
          have HB10 : Hid (Below wr.heap.size wr (((v8'.setCell ⟨R, 8, none⟩ (.slice none 0 0)).setCell ⟨R, 9, none⟩ (.slice none 0 0)).setCells R 1 (hcells 0 0 0 0 0 0 false).toList)) := below_setCells (Below.setCell (p := ⟨R, 9, none⟩) (Below.setCell (p := ⟨R, 8, none⟩) HB8.out (by have := HR.out; simp only; omega) _) (by have := HR.out; simp only; omega) _) (by have := HR.out; omega) _ _
          generalize ((v8'.setCell ⟨R, 8, none⟩ (.slice none 0 0)).setCell ⟨R, 9, none⟩ (.slice none 0 0)).setCells R 1 (hcells 0 0 0 0 0 0 false).toList = v10 at HC10 HB10 ⊢
          clear HC8 HB8 HW8 d8 d9 d10 f8 f9 HC9 hth
          have d10 : v10.cell? ⟨R, 10, none⟩ = some (.int .i64 fl) := HC10.out.cell 10
          have f10 := HC10.out.frozen 10
          have hb1 := among_any (fl - 1) 40 (by unfold InI; omega) (by omega) v10
          have hb1b := amg_in (fl - 1) 40 (by omega)
          have Hb1 : Hid (amg (fl - 1) 40 = amg (fl - 1) 40) := (rfl : amg (fl - 1) 40 = amg (fl - 1) 40)
          obtain ⟨b1, hb1e⟩ : ∃ b, b = amg (fl - 1) 40 := ⟨_, rfl⟩
          have Hb1e : Hid (b1 = amg (fl - 1) 40) := hb1e
          rw [← hb1e] at hb1 hb1b
          clear hb1e Hb1
          go_wp2_with fail
          refine hb1.mono ?_
          rintro e w11 ⟨rfl, rfl⟩
          clear hb1
          go_wp2_with fail
          go_meet
          refine ⟨⟨1 + a1, 0, 0, 0, 0, 0, 0, false, .slice none 0 0, .slice none 0 0, 1 + b1, [], [], at0⟩, 1 + b1, rfl, ?_, ?_, ?_⟩
          · show (1 + b1 : Int) = LT.sz _
            unfold LT.sz
            rw [if_pos (by dsimp only; omega)]
          · exact Ft.no HIn.out.1 hf Hz1.out Hb1e.out _ _
          · exact ⟨HC10.out.setF (1 + b1), Below.setCell (p := ⟨R, 10, none⟩) HB10.out (by have := HR.out; simp only; omega) _, World.ownsRow_nil _ _ _ _, World.ownsRow_nil _ _ _ _, fun y hy => by simp [Value.ownBlock] at hy⟩
        · obtain rfl : nb1 = false := by rw [Hnb1.out]; exact decide_eq_false hf
          have f10 := HC8.out.frozen 10
          go_wp2_with fail
          go_meet
          refine ⟨⟨1 + a1, sn, kd2, m1, m2, a2, a3, hd, .slice g1 m1 c1, .slice g2 m2 c2, 0, ps1, rs1, at0⟩, 2 + m1 + m2, rfl, ?_, ?_, ?_⟩
          · show (2 + m1 + m2 : Int) = LT.sz _
            unfold LT.sz
            rw [if_neg (by dsimp only; omega)]
            have h1 := Hl1.out
            have h2 := Hl2.out
            dsimp only
            omega
          · exact Ft.yes HIn.out.1 (HPI.out _ (List.mem_of_getElem? Ho.out)) (by dsimp only; omega) Hz1.out Hm1.out Hm2.out Hps1.out Hrs1.out Hkd.out hg1b hg2b _ _
          · have h1 := Hl1.out
            have h2 := Hl2.out
            refine ⟨HC8.out.setF 0, Below.setCell (p := ⟨R, 10, none⟩) HB8.out (by have := HR.out; simp only; omega) _, ?_, ?_, HF3.out⟩
            · show World.ownsRow _ 0 3 1 (.slice g1 m1 c1) ps1.length (ints ps1)
              rw [h1]
              exact row_keep HW8.out.1 (fun y hy => Below.heap_setCell _ _ _ _ (by have := HF3.out y hy; have := HR.out; show y ≠ R; omega))
            · show World.ownsRow _ 0 58 1 (.slice g2 m2 c2) rs1.length (words rs1)
              rw [h2]
              exact row_keep HW8.out.2 (fun y hy => Below.heap_setCell _ _ _ _ (fun e => row_ne HC8.out.at_ HW8.out.2 (by decide) (by rw [← show y = R from e]; exact hy.symm)))
      case rest =>
      obtain ⟨T5, n5, rfl, Hn5, HFt, HFr⟩ := hcut
      clear HC8 HB8 HW8 HF3 d8 d9 d10 Hnb1 Hkd hg1b hg2b Hl1 Hl2 Hps1 Hrs1 Hm1 Hm2 HIn Hz1 ha1b HI HJ
      apply_assumption
      obtain ⟨l1, l2, l3, l4, l5, l6, l7, l8, -⟩ := HFt.out.low
      obtain ⟨s5, hs5⟩ : ∃ s : Nat, T5.sp = s := ⟨T5.sp.toNat, by omega⟩
      have Hs5 : Hid (T5.sp = s5) := hs5
      have hs5a : (s5 : Int) < 5 := by omega
      have hs5b : 1 ≤ s5 ∧ s5 ≤ 4 := by omega
      have Hlow : Hid (1 ≤ T5.sp ∧ T5.sp ≤ 4 ∧ 1 ≤ T5.sz ∧ T5.sz ≤ 122) := ⟨l1, l2, l7, l8⟩
      have HQ5 : Hid (Fq w wc B cp c (.slice (some ⟨q, off, none⟩) n0 cap0) tv av L (tps c L) q4) := HQr.out.below HFr.out.be
      have hbd := bhd_in c Hok.out.1 s5 hs5b.1 hs5b.2
      have htp := HLk.out.2.plc.all Hok.out.1 T5.sp l1 l2
      have Htp : Hid (fst c T5.sp ≤ (tps c L).top T5.sp ∧ (tps c L).top T5.sp ≤ bhd c T5.sp) := htp
      rw [hs5] at htp
      obtain ⟨tp, htpe⟩ : ∃ t, t = (tps c L).top s5 := ⟨_, rfl⟩
      obtain ⟨bd, hbde⟩ : ∃ t, t = bhd c s5 := ⟨_, rfl⟩
      have Htpe : Hid (tp = (tps c L).top T5.sp ∧ bd = bhd c T5.sp) := (by rw [hs5]; exact ⟨htpe, hbde⟩ : tp = (tps c L).top T5.sp ∧ bd = bhd c T5.sp)
      have x0 : wc.cell? ⟨R, 0, none⟩ = some (.int .i64 (s5 : Int)) := by rw [← hs5]; exact HFr.out.lc.cell 0
      have x21 : wc.cell? ⟨B + 1, 21 + s5, none⟩ = some (.int .i64 tp) := by rw [htpe]; exact lw_top HQ5.out.ly s5 hs5b.1 hs5b.2
      have x26 : wc.cell? ⟨B + 1, 26 + s5, none⟩ = some (.int .i64 bd) := by rw [hbde]; exact lw_end HQ5.out.ly s5 hs5b.1 hs5b.2
      have htpb : 1 ≤ tp ∧ tp ≤ 262145 := by rw [htpe]; omega
      have hn5b : 1 ≤ n5 ∧ n5 ≤ 122 := by have := Hn5.out; omega
      clear htpe hbde hbd htp l1 l2 l3 l4 l5 l6 l7 l8 hs5
      go_wp2_with fail
      go_quiet (fail)
      have bd1 := below_drewN (Below.refl wc.heap.size wc) nq
      have HQ6 : Hid (Fq w (wc.drewN nq) B cp c (.slice (some ⟨q, off, none⟩) n0 cap0) tv av L (tps c L) q4) := HQ5.out.below bd1
      have HF6 : Hid (Fr wr (wc.drewN nq) R T5) := HFr.out.below bd1
      have y0 : (wc.drewN nq).cell? ⟨R, 0, none⟩ = some (.int .i64 (s5 : Int)) := (bd1.cell (p := ⟨R, 0, none⟩) HFr.out.lc.lt).trans x0
      have y21 : (wc.drewN nq).cell? ⟨B + 1, 21 + s5, none⟩ = some (.int .i64 tp) := (bd1.cell (p := ⟨B + 1, 21 + s5, none⟩) HQ5.out.ly.lt).trans x21
      have y26 : (wc.drewN nq).cell? ⟨B + 1, 26 + s5, none⟩ = some (.int .i64 bd) := (bd1.cell (p := ⟨B + 1, 26 + s5, none⟩) HQ5.out.ly.lt).trans x26
      generalize wc.drewN nq = v11 at HQ6 HF6 y0 y21 y26 ⊢
      clear HQ5 HFr x0 x21 x26 bd1 wc
      go_upto_region 26 with fail
      go_cut [204] from 194 to 204 (fun v204 wc => ∃ nb : Bool, v204 = .bool nb ∧ nb = decide (bd < tp + n5) ∧ ∃ m, wc = v11.drewN m)
      case first =>
        go_quiet (fail)
        go_wp2_with fail
        go_meet
        exact ⟨_, rfl, rfl, nq, rfl⟩
      case rest =>
      obtain ⟨nb2, rfl, hnb2, mq, rfl⟩ := hcut
      have Hnb2 : Hid (nb2 = decide (bd < tp + n5)) := hnb2
      clear hnb2
      apply_assumption
      have bd1 := below_drewN (Below.refl v11.heap.size v11) mq
      have HQ7 : Hid (Fq w (v11.drewN mq) B cp c (.slice (some ⟨q, off, none⟩) n0 cap0) tv av L (tps c L) q4) := HQ6.out.below bd1
      have HF7 : Hid (Fr wr (v11.drewN mq) R T5) := HF6.out.below bd1
      have z0 : (v11.drewN mq).cell? ⟨R, 0, none⟩ = some (.int .i64 (s5 : Int)) := (bd1.cell (p := ⟨R, 0, none⟩) HF6.out.lc.lt).trans y0
      have z21 : (v11.drewN mq).cell? ⟨B + 1, 21 + s5, none⟩ = some (.int .i64 tp) := (bd1.cell (p := ⟨B + 1, 21 + s5, none⟩) HQ6.out.ly.lt).trans y21
      have zf := HQ7.out.ly.frozen (21 + s5)
      generalize v11.drewN mq = v12 at HQ7 HF7 z0 z21 zf ⊢
      clear HQ6 HF6 y0 y21 y26 bd1 v11
      go_cut [10] from 205 to 213 (fun v10 wc => ∃ at5 : Int, v10 = .int .i64 at5 ∧ Hid (at5 = if (tps c L).top T5.sp + T5.sz ≤ bhd c T5.sp then (tps c L).top T5.sp else 0) ∧ Hid (Fq w wc B cp c (.slice (some ⟨q, off, none⟩) n0 cap0) tv av L (tps c (L ++ [{ T5 with at_ := at5 }])) q4) ∧ Hid (Fs w wc R { T5 with at_ := at5 } av L))
      case first =>
        by_cases hfit : bd < tp + n5
        · obtain rfl : nb2 = true := by rw [Hnb2.out]; exact decide_eq_true hfit
          have Hfit : Hid (bd < tp + n5) := hfit
          clear hfit
          go_wp2_with fail
          go_meet
          refine ⟨0, rfl, ?_, ?_, ?_⟩
          · show (0 : Int) = _
            have h1 := Htpe.out
            have h2 := Hn5.out
            have h3 := Hfit.out
            rw [if_neg (by omega)]
          · have h := (tps_more c Hok.out.1 HLk.out.2 { T5 with at_ := 0 } Hlow.out.1 Hlow.out.2.1).2 rfl
            show Fq _ _ _ _ _ _ _ _ _ _ _
            rw [h]
            exact HQ7.out
          · exact (HF7.out.fs HQr.out).place 0
        · obtain rfl : nb2 = false := by rw [Hnb2.out]; exact decide_eq_false hfit
          have Hfit : Hid (¬ bd < tp + n5) := hfit
          have hfit2 : tp + n5 ≤ bd := by omega
          clear hfit
          go_wp2_with fail
          refine quiet_tail 9 mixed (by kernel_rfl) ?_
          simp only [List.take_succ_cons, List.take_zero, List.drop_succ_cons, List.drop_zero]
          iterate 9 (go_big_quiet_step (fail))
          refine wpQuiet_nil ?_
          go_wp2_with fail
          go_meet
          have bd1 := below_drewN (Below.refl v12.heap.size v12) 1
          have h1 := Htpe.out
          have h2 := Hn5.out
          have h3 := Hfit.out
          have hq := (HQ7.out.below bd1).top T5.sp (tp + n5) Hlow.out.1 Hlow.out.2.1
          have hs := ((HF7.out.fs HQr.out).below bd1).top (HQ7.out.below bd1) (21 + s5) (.int .i64 (tp + n5))
          have e5 : T5.sp.toNat = s5 := by have := Hs5.out; omega
          rw [e5] at hq
          refine ⟨tp, rfl, ?_, ?_, ?_⟩
          · show tp = _
            rw [if_pos (by omega)]
            exact h1.1
          · have h := (tps_more c Hok.out.1 HLk.out.2 { T5 with at_ := tp } Hlow.out.1 Hlow.out.2.1).1 (by show (tps c L).top T5.sp + T5.sz ≤ bhd c T5.sp; omega) h1.1
            have e6 : (tps c L).top T5.sp + T5.sz = tp + n5 := by omega
            have e7 : tps c (L ++ [{ T5 with at_ := tp }]) = (tps c L).put T5.sp (tp + n5) := h.trans (by show (tps c L).put T5.sp ((tps c L).top T5.sp + T5.sz) = _; rw [e6])
            show Fq _ _ _ _ _ _ _ _ _ _ _
            rw [e7]
            exact hq
          · exact hs.place tp
      case rest =>
      obtain ⟨at5, rfl, Hat5, HQ8, HF8⟩ := hcut
      clear HQ7 HF7 z0 z21 zf Hnb2 Htpe htpb hn5b Hn5 Htp v12
      apply_assumption
      have HL : Hid (L.length = k) := HLk.out.1
      have HOk : Hid (LT.Ok c (tps c L) { T5 with at_ := at5 } ∧ Fx1 c (tps c L) ⟨sp, sn, kd, pn, rn, ag, st, hd, .slice p1 ps.length p3, .slice r1 rs.length r3, fl, ps, rs, at0⟩ { T5 with at_ := at5 }) := HFt.out.ok c (tps c L) at5 Hat5.out
      obtain ⟨i2, hi0, hz0, hz10, hz2⟩ := info_parts Tryz.infoThing
      have HK2 : Hid (Tryz.prog.info? 63 = some i2 ∧ i2.zero = some (.agg (lcells 0 0 0 0 0 0 0 false (.slice none 0 0) (.slice none 0 0) 0)) ∧ i2.size = 11 ∧ i2.bytes = 120) := ⟨hi0, hz0, hz10, hz2⟩
      clear hi0 hz0 hz10 hz2
      obtain ⟨pa, pc, hvp⟩ := own_sl HF8.out.hp
      obtain ⟨ra, rc, hvr⟩ := own_sl HF8.out.hr
      obtain ⟨ta, tc, htv⟩ := own_sl HQ8.out.lf.row
      subst htv
      simp only at hvp hvr
      have hd10 := below_drewN (Below.refl wc.heap.size wc) 1
      have HQd : Hid (Fq w wc.drew B cp c (.slice (some ⟨q, off, none⟩) n0 cap0) (.slice ta L.length tc) av L (tps c (L ++ [{ T5 with at_ := at5 }])) q4) := HQ8.out.below hd10
      have HFd : Hid (Fs w wc.drew R { T5 with at_ := at5 } av L) := HF8.out.below hd10
      obtain ⟨nL, hnL⟩ : ∃ n, n = L.length := ⟨_, rfl⟩
      have HnL : Hid (nL = L.length) := hnL
      have Hcells : Hid ((LT.cells { T5 with at_ := at5 }) = lcells T5.sp T5.s T5.k T5.p T5.r T5.a T5.t T5.h (.slice pa T5.ps.length pc) (.slice ra T5.rs.length rc) T5.fill) := (by show lcells T5.sp T5.s T5.k T5.p T5.r T5.a T5.t T5.h T5.vp T5.vr T5.fill = _; rw [hvp, hvr] : _ = _)
      have x0 : wc.cell? ⟨R, 0, none⟩ = some (.int .i64 T5.sp) := HF8.out.lc.cell 0
      have x1 : wc.cell? ⟨R, 1, none⟩ = some (.int .u64 T5.s) := HF8.out.lc.cell 1
      have x2 : wc.cell? ⟨R, 2, none⟩ = some (.int .i64 T5.k) := HF8.out.lc.cell 2
      have x3 : wc.cell? ⟨R, 3, none⟩ = some (.int .i64 T5.p) := HF8.out.lc.cell 3
      have x4 : wc.cell? ⟨R, 4, none⟩ = some (.int .i64 T5.r) := HF8.out.lc.cell 4
      have x5 : wc.cell? ⟨R, 5, none⟩ = some (.int .i64 T5.a) := HF8.out.lc.cell 5
      have x6 : wc.cell? ⟨R, 6, none⟩ = some (.int .i64 T5.t) := HF8.out.lc.cell 6
      have x7 : wc.cell? ⟨R, 7, none⟩ = some (.bool T5.h) := HF8.out.lc.cell 7
      have x8 : wc.cell? ⟨R, 8, none⟩ = some (.slice pa T5.ps.length pc) := by rw [← hvp]; exact HF8.out.lc.cell 8
      have x9 : wc.cell? ⟨R, 9, none⟩ = some (.slice ra T5.rs.length rc) := by rw [← hvr]; exact HF8.out.lc.cell 9
      have x10 : wc.cell? ⟨R, 10, none⟩ = some (.int .i64 T5.fill) := HF8.out.lc.cell 10
      have x14 : wc.cell? ⟨B + 1, 14, none⟩ = some (.slice ta nL tc) := by rw [hnL]; exact HQ8.out.ly.cell (i := 14) (by decide)
      have Hrow : Hid (wc.drew.ownsRow 0 63 11 (.slice ta nL tc) nL (lflat L)) := by rw [hnL]; exact HQd.out.lf.row
      have hnLb : nL < 400 := by have := HL.out; omega
      have hlB : B + 1 < wc.heap.size := HQ8.out.ly.lt
      have hlR : R < wc.heap.size := HF8.out.lc.lt
      clear hvp hvr hd10 hnL
      have q1 : Hid (∀ u ∈ (lcells T5.sp T5.s T5.k T5.p T5.r T5.a T5.t T5.h (.slice pa T5.ps.length pc) (.slice ra T5.rs.length rc) T5.fill).toList, u.oneCell' = true) := by
        show ∀ u ∈ (lcells T5.sp T5.s T5.k T5.p T5.r T5.a T5.t T5.h (.slice pa T5.ps.length pc) (.slice ra T5.rs.length rc) T5.fill).toList, u.oneCell' = true
        simp [Value.oneCell']
      have q2 : Hid (nL + 1 ≤ maxLen) := by show _ ≤ _; simp [maxLen]; omega
      have q3 : (nL + 1) * 120 ≤ 140737488355328 := by omega
      have q4' : Hid (∀ (j : Nat) u, (lcells T5.sp T5.s T5.k T5.p T5.r T5.a T5.t T5.h (.slice pa T5.ps.length pc) (.slice ra T5.rs.length rc) T5.fill).toList[j]? = some u → (wc.drew.alloc (.cells (lcells T5.sp T5.s T5.k T5.p T5.r T5.a T5.t T5.h (.slice pa T5.ps.length pc) (.slice ra T5.rs.length rc) T5.fill) 63)).cell? ((⟨wc.heap.size, 0, none⟩ : Addr).add j) = some u) := cells_new wc.drew (lcells T5.sp T5.s T5.k T5.p T5.r T5.a T5.t T5.h (.slice pa T5.ps.length pc) (.slice ra T5.rs.length rc) T5.fill) 63
      go_upto_region 29 with fail
      go_cut [] from 214 to 223 (fun wq => ∃ tv', Hid (Fi w wq B cp c (.slice (some ⟨q, off, none⟩) n0 cap0) tv' av L { T5 with at_ := at5 } (tps c (L ++ [{ T5 with at_ := at5 }])) q4))
      case first =>
        go_region_law (refine step_append_own_at rfl (.tmp 218) (.tmp 220) 24 rfl 0 63 i2 (.agg (lcells 0 0 0 0 0 0 0 false (.slice none 0 0) (.slice none 0 0) 0)) 11 120 Tryz.underlying24 HK2.out.1 HK2.out.2.1 HK2.out.2.2.1 HK2.out.2.2.2 rfl (by decide) (.slice ta nL tc) nL (lflat L) rfl (Hrow.out.alloc _) ⟨wc.heap.size, 0, none⟩ 1 1 (lcells T5.sp T5.s T5.k T5.p T5.r T5.a T5.t T5.h (.slice pa T5.ps.length pc) (.slice ra T5.rs.length rc) T5.fill).toList rfl rfl q4'.out q1.out q2.out q3 (Nat.zero_le _) ?_; intro tv' w3 hrow3 hgrow3 hat3; have hth3 := HQd.out.things (T := { T5 with at_ := at5 }) (o := .cells (lcells T5.sp T5.s T5.k T5.p T5.r T5.a T5.t T5.h (.slice pa T5.ps.length pc) (.slice ra T5.rs.length rc) T5.fill) 63) (w3 := w3) (tv' := tv') (by rw [← HnL.out, Hcells.out]; exact hrow3) (by rw [← HnL.out]; exact hgrow3) (by rw [← HnL.out]; simpa using hat3) HFd.out.hp HFd.out.hr HFd.out.dn ⟨HFt.out.inn.sp, HFt.out.inn.k, HFt.out.inn.a, HFt.out.inn.t, HFt.out.inn.fill, HFt.out.inn.s, HFt.out.inn.rs⟩ HFd.out.fT; obtain ⟨y3, hfi⟩ := hth3; have d14 : w3.cell? ⟨B + 1, 14, none⟩ = some (.slice ta L.length tc) := y3.cell (i := 14) (by decide); have f14 := y3.frozen 14; obtain ⟨a7, c7, rfl⟩ := own_sl hrow3; have HFi : Hid _ := hfi; clear hfi y3 hrow3 hgrow3 hat3)
        all_goals
          go_wp2_with fail
          go_meet
          exact ⟨_, HFi⟩
      case rest =>
      obtain ⟨tv', HFi⟩ := hcut
      clear HQd HFd HQ8 HF8 x0 x1 x2 x3 x4 x5 x6 x7 x8 x9 x10 x14 Hrow q1 q2 q3 q4' Hcells HK2
      apply_assumption
      obtain ⟨i0, hi0, hz0, hz10, hz2⟩ := info_parts Tryz.infoInt
      have HI : Hid (Tryz.prog.info? 3 = some i0 ∧ i0.zero = some (.int .i64 0) ∧ i0.size = 1 ∧ i0.bytes = 8) := ⟨hi0, hz0, hz10, hz2⟩
      clear hi0 hz0 hz10 hz2
      obtain ⟨va, vc, hav⟩ := own_sl HFi.out.att
      subst hav
      have Hatt : Hid (wc.ownsRow 0 3 1 (.slice va nL vc) nL (ints (L.map (·.at_)))) := by rw [HnL.out]; exact HFi.out.att
      have x15 : wc.cell? ⟨B + 1, 15, none⟩ = some (.slice va nL vc) := by rw [HnL.out]; exact HFi.out.ly.cell (i := 15) (by decide)
      clear hlB hlR
      have hlB : B + 1 < wc.heap.size := HFi.out.ly.lt
      go_wp2_with (at_builtin; go_loud (refine wpList_append_own_at _ rfl _ _ 27 rfl 0 3 i0 (.int .i64 0) 1 8 Tryz.underlying27 HI.out.1 HI.out.2.1 HI.out.2.2.1 HI.out.2.2.2 rfl (by decide) (.slice va nL vc) nL (ints (L.map (·.at_))) rfl (Hatt.out.alloc _) ⟨wc.heap.size, 0, none⟩ 1 1 [.int .i64 at5] rfl rfl (cell_one_new _ _ _) (by simp [Value.oneCell']) (by simp [maxLen]; omega) (by omega) (by omega) ?_; intro av' w4 hown4 hgrow4 _ hat4; have hth4 := HFi.out.ats (o := .cells #[.int .i64 at5] 3) (w3 := w4) (av' := av') (by rw [← HnL.out]; exact hown4) (by rw [← HnL.out]; exact hgrow4) (by rw [← HnL.out]; simpa using hat4); obtain ⟨y4, hfq⟩ := hth4; have d15 : w4.cell? ⟨B + 1, 15, none⟩ = some (.slice va L.length vc) := y4.cell (i := 15) (by decide); have f15 := y4.frozen 15; obtain ⟨a7, c7, rfl⟩ := own_sl hown4; have HFq : Hid _ := hfq; clear hfq y4 hown4 hgrow4 hat4))
      go_roundw
      case rel =>
        refine ⟨k + 1, by omega, by omega, by go_num, _, _, _, HFq, ?_⟩
        refine (⟨?_, ?_⟩ : _ ∧ _)
        · rw [List.length_append, HL.out]
          rfl
        · exact HLk.out.2.snoc (by rw [HL.out]; exact Ho.out) HOk.out.1 HOk.out.2 HFt.out.ini
      case measure => simp [intOf]; omega
    · obtain rfl : nb0 = false := by rw [Hnb0.out]; exact decide_eq_false hkk
      have Hkx : Hid (k = min n0 400) := (by omega : k = min n0 400)
      clear Hnb0 e14 hkk
      go_wp2_with fail
      obtain ⟨nL, hnL⟩ : ∃ n, n = L.length := ⟨_, rfl⟩
      have HnL : Hid (nL = L.length ∧ nL ≤ 400) := ⟨hnL, by have := HLk.out.1; omega⟩
      clear hnL
      go_loopw [11] (fun v11 wr => ∃ i : Nat, i ≤ nL ∧ v11 = .int .i64 i ∧ ∃ L2, Hid (Fq w wr B cp c (.slice a0 n0 cap0) tv av L2 (tps c L) q4) ∧ Hid (Lk c P L2 ∧ L2.map ky = L.map ky ∧ ∀ (j : Nat) T, j < i → L2[j]? = some T → ∀ z, z ∈ T.ps → z = 0 ∨ thr L z = true)) (fun v11 _ => nL - (intOf v11).toNat)
      case atStart => exact ⟨0, Nat.zero_le _, rfl, L, HQr, (⟨HLk.out.2, rfl, fun j T hj => by omega⟩ : _ ∧ _ ∧ ∀ (j : Nat) T, j < 0 → L[j]? = some T → ∀ z, z ∈ T.ps → z = 0 ∨ thr L z = true)⟩
      case round =>
        obtain ⟨i, hi, rfl, L2, HQ2, HL2⟩ := hrel
        clear HQr
        have hl2 : L2.length = nL := by
          have h := congrArg List.length HL2.out.2.1
          rw [List.length_map, List.length_map] at h
          rw [h]
          exact HnL.out.1.symm
        obtain ⟨ta, tc, htv⟩ := own_sl HQ2.out.lf.row
        rw [hl2] at htv
        subst htv
        have x14 : wr.cell? ⟨B + 1, 14, none⟩ = some (.slice ta nL tc) := HQ2.out.ly.cell (i := 14) (by decide)
        have hnLb : nL ≤ 400 := HnL.out.2
        by_cases hil : i < nL
        · have hiI : (i : Int) < (nL : Int) := by omega
          obtain ⟨T, hT⟩ : ∃ T, L2[i]? = some T := ⟨_, List.getElem?_eq_getElem (by omega)⟩
          have HT : Hid (L2[i]? = some T) := hT
          have Hl2 : Hid (L2.length = nL) := hl2
          clear hT hl2
          go_wp2_with fail
          obtain ⟨np, hnp⟩ : ∃ n, n = T.ps.length := ⟨_, rfl⟩
          have hnpb : np ≤ 60 := by rw [hnp]; exact (HL2.out.1.plc i T HT.out).few.1
          have HTn : Hid (L2[i]? = some T ∧ T.ps.length = np) := ⟨HT.out, hnp.symm⟩
          have HL3 : Hid (Lk c P L2 ∧ L2.map ky = L.map ky ∧ (∀ (j : Nat) T, j < i → L2[j]? = some T → ∀ z, z ∈ T.ps → z = 0 ∨ thr L z = true) ∧ ∀ (g : Nat) z, g < 0 → T.ps[g]? = some z → z = 0 ∨ thr L z = true) := ⟨HL2.out.1, HL2.out.2.1, HL2.out.2.2, fun g z hg => by omega⟩
          clear hnp HT x14 HL2 Hl2
          go_loopw [12] (fun v12 wr => ∃ f : Nat, f ≤ np ∧ v12 = .int .i64 f ∧ ∃ L3 T3, Hid (L3[i]? = some T3 ∧ T3.ps.length = np) ∧ Hid (Fq w wr B cp c (.slice a0 n0 cap0) (.slice ta nL tc) av L3 (tps c L) q4) ∧ Hid (Lk c P L3 ∧ L3.map ky = L.map ky ∧ (∀ (j : Nat) T, j < i → L3[j]? = some T → ∀ z, z ∈ T.ps → z = 0 ∨ thr L z = true) ∧ ∀ (g : Nat) z, g < f → T3.ps[g]? = some z → z = 0 ∨ thr L z = true)) (fun v12 _ => np - (intOf v12).toNat)
          case atStart => exact ⟨0, Nat.zero_le _, rfl, L2, T, HTn, HQ2, HL3⟩
          case round =>
            obtain ⟨f, hf, rfl, L3, T3, HT3, HQ3, HK3⟩ := hrel
            clear HTn HL3 HQ2
            have hm3 := List.mem_of_getElem? HT3.out.1
            have x14 : wr.cell? ⟨B + 1, 14, none⟩ = some (.slice ta nL tc) := HQ3.out.ly.cell (i := 14) (by decide)
            obtain ⟨pa, pc, hvp⟩ := own_sl (HQ3.out.lf.pb T3 hm3)
            rw [HT3.out.2] at hvp
            obtain ⟨ta', tc', e1, -, hrow⟩ := row_at HQ3.out.lf.row (by decide)
            obtain ⟨tq, e2, htq, x8⟩ := hrow (i * 11 + 8) T3.vp (by rw [lflat_at L3 i T3 8 HT3.out.1 (by decide)]; rfl)
            simp only [Value.slice.injEq] at e1
            obtain ⟨e1, -, -⟩ := e1
            rw [← e1] at e2
            subst e2
            rw [hvp] at x8
            clear hrow e1
            have hl3 : L3.length = nL := by
              have h := congrArg List.length HK3.out.2.1
              rw [List.length_map, List.length_map] at h
              rw [h]
              exact HnL.out.1.symm
            have Hl3 : Hid (L3.length = nL) := hl3
            have Hvp : Hid (T3.vp = .slice pa np pc) := hvp
            have Hm3 : Hid (T3 ∈ L3) := hm3
            clear hl3 hvp hm3
            by_cases hfl : f < np
            · have hfI : (f : Int) < (np : Int) := by omega
              obtain ⟨z, hz⟩ : ∃ z, T3.ps[f]? = some z := ⟨_, List.getElem?_eq_getElem (by have := HT3.out.2; omega)⟩
              obtain ⟨pa', pc', e1, -, hrow⟩ := row_at (HQ3.out.lf.pb T3 Hm3.out) (by decide)
              obtain ⟨pq, e2, hpq, xf⟩ := hrow f (.int .i64 z) (by rw [List.getElem?_map, hz]; rfl)
              rw [Hvp.out] at e1
              simp only [Value.slice.injEq] at e1
              obtain ⟨e1, -, -⟩ := e1
              rw [← e1] at e2
              subst e2
              clear hrow e1
              have Hz : Hid (T3.ps[f]? = some z) := hz
              have hzi : InI z := HK3.out.1.ini T3 Hm3.out z (List.mem_of_getElem? hz)
              have hly := HQ3.out.lf.ly HQ3.out.ly
              have hth := there_any hly (by have := Hl3.out; have := HnL.out.2; omega) z hzi
              have Hthr : Hid (thr L3 z = thr L z) := thr_ky HK3.out.2.1 z
              clear hz hzi hly
              cases hthr : thr L3 z
              · rw [hthr] at hth
                have Ht0 : Hid (thr L z = false) := (by rw [← Hthr.out, hthr] : thr L z = false)
                clear hthr Hthr
                go_wp2_with fail
                refine hth.mono ?_
                rintro e w5 ⟨rfl, l5⟩
                have HQ5 : Hid (Fq w w5 B cp c (.slice a0 n0 cap0) (.slice (some ⟨tq, 0, none⟩) nL tc) av L3 (tps c L) q4) := HQ3.out.below l5
                have z14 : w5.cell? ⟨B + 1, 14, none⟩ = some (.slice (some ⟨tq, 0, none⟩) nL tc) := HQ5.out.ly.cell (i := 14) (by decide)
                have z8 : w5.cell? ⟨tq, i * 11 + 8, none⟩ = some (.slice (some ⟨pq, 0, none⟩) np pc) := (l5.cell (p := ⟨tq, i * 11 + 8, none⟩) htq).trans x8
                have zf : w5.cell? ⟨pq, f, none⟩ = some (.int .i64 z) := (l5.cell (p := ⟨pq, f, none⟩) hpq).trans xf
                have hrow5 := HQ5.out.lf.pb T3 Hm3.out
                have ff : w5.frozen? ⟨pq, f, none⟩ = false := by
                  obtain ⟨cs, hcs⟩ := row_cells hrow5 (q := pq) (by rw [Hvp.out]; rfl)
                  unfold World.frozen?
                  simp only [hcs]
                  simp
                rw [Hvp.out, HT3.out.2] at hrow5
                have hst := World.ownsRow.stored hrow5 f (.int .i64 0)
                have Hst : Hid ((w5.setCell ⟨pq, f, none⟩ (.int .i64 0)).ownsRow 0 3 1 T3.vp T3.ps.length (ints (T3.ps.set f 0)) ∧ Touch T3.vp.ownBlock.toList w5 (w5.setCell ⟨pq, f, none⟩ (.int .i64 0))) := ⟨by
                  rw [Hvp.out, HT3.out.2]
                  have h := hst.1
                  rw [show (ints T3.ps).set f (.int .i64 0) = ints (T3.ps.set f 0) from (by unfold ints; rw [List.map_set])] at h
                  exact h, ⟨rfl, rfl, rfl, by simp [World.setCell], fun k hk hn => Below.heap_setCell _ _ _ _ (by intro e; apply hn; rw [Hvp.out, show k = pq from e]; simp [Value.ownBlock])⟩⟩
                clear hth l5 HQ3 x14 x8 xf hrow5 hst
                go_wp2_with fail
                have HQ6 : Hid (Fq w (w5.setCell ⟨pq, f, none⟩ (.int .i64 0)) B cp c (.slice a0 n0 cap0) (.slice (some ⟨tq, 0, none⟩) nL tc) av (L3.set i { T3 with ps := T3.ps.set f 0 }) (tps c L) q4) := HQ5.out.null HT3.out.1 f Hst.out.2 Hst.out.1
                have hil3 : i < L3.length := by have := Hl3.out; omega
                have HT6 : Hid ((L3.set i { T3 with ps := T3.ps.set f 0 })[i]? = some { T3 with ps := T3.ps.set f 0 } ∧ (T3.ps.set f 0).length = np) := ⟨by rw [List.getElem?_set, if_pos rfl, if_pos hil3], by rw [List.length_set]; exact HT3.out.2⟩
                have HK6 : Hid (Lk c P (L3.set i { T3 with ps := T3.ps.set f 0 }) ∧ (L3.set i { T3 with ps := T3.ps.set f 0 }).map ky = L.map ky ∧ (∀ (j : Nat) T, j < i → (L3.set i { T3 with ps := T3.ps.set f 0 })[j]? = some T → ∀ z, z ∈ T.ps → z = 0 ∨ thr L z = true) ∧ ∀ (g : Nat) z, g < f + 1 → (T3.ps.set f 0)[g]? = some z → z = 0 ∨ thr L z = true) := ⟨HK3.out.1.null HT3.out.1 f, (ky_null HT3.out.1 f).trans HK3.out.2.1, fun j T hj hT => HK3.out.2.2.1 j T hj (by rw [List.getElem?_set, if_neg (by omega)] at hT; exact hT), fun g y hg hy => by
                  rw [List.getElem?_set] at hy
                  by_cases e : f = g
                  · rw [if_pos e] at hy
                    split at hy
                    · simp at hy
                      exact .inl hy.symm
                    · simp at hy
                  · rw [if_neg e] at hy
                    exact HK3.out.2.2.2 g y (by omega) hy⟩
                go_roundw
                case rel => exact ⟨f + 1, by omega, by go_num, _, _, HT6, HQ6, HK6⟩
                case measure => simp [intOf]; omega
              · rw [hthr] at hth
                have HK6 : Hid (Lk c P L3 ∧ L3.map ky = L.map ky ∧ (∀ (j : Nat) T, j < i → L3[j]? = some T → ∀ z, z ∈ T.ps → z = 0 ∨ thr L z = true) ∧ ∀ (g : Nat) z, g < f + 1 → T3.ps[g]? = some z → z = 0 ∨ thr L z = true) := ⟨HK3.out.1, HK3.out.2.1, HK3.out.2.2.1, fun g y hg hy => by
                  by_cases e : g = f
                  · subst e
                    rw [Hz.out] at hy
                    simp at hy
                    subst hy
                    exact .inr (by rw [← Hthr.out, hthr])
                  · exact HK3.out.2.2.2 g y (by omega) hy⟩
                clear hthr Hthr
                go_wp2_with fail
                refine hth.mono ?_
                rintro e w5 ⟨rfl, l5⟩
                have HQ5 : Hid (Fq w w5 B cp c (.slice a0 n0 cap0) (.slice (some ⟨tq, 0, none⟩) nL tc) av L3 (tps c L) q4) := HQ3.out.below l5
                clear hth l5 HQ3 x14 x8 xf
                go_wp2_with fail
                go_roundw
                case rel => exact ⟨f + 1, by omega, by go_num, _, _, HT3, HQ5, HK6⟩
                case measure => simp [intOf]; omega
            · have hfe : f = np := by omega
              have hfI : ¬ (f : Int) < (np : Int) := by omega
              have HK4 : Hid (Lk c P L3 ∧ L3.map ky = L.map ky ∧ ∀ (j : Nat) T, j < i + 1 → L3[j]? = some T → ∀ z, z ∈ T.ps → z = 0 ∨ thr L z = true) := ⟨HK3.out.1, HK3.out.2.1, fun j U hj hU z hz => by
                by_cases e : j = i
                · subst e
                  rw [HT3.out.1] at hU
                  simp at hU
                  subst hU
                  obtain ⟨g, hg⟩ := List.getElem?_of_mem hz
                  have := (List.getElem?_eq_some_iff.1 hg).1
                  exact HK3.out.2.2.2 g z (by have := HT3.out.2; omega) hg
                · exact HK3.out.2.2.1 j U (by omega) hU z hz⟩
              clear hf HK3
              go_wp2_with fail
              go_roundw
              case rel => exact ⟨i + 1, by omega, by go_num, L3, HQ3, HK4⟩
              case measure => simp [intOf]; omega
        · have hie : i = nL := by omega
          have hiI : ¬ (i : Int) < (nL : Int) := by omega
          have HLy := HQ2.out.lf.ly HQ2.out.ly
          have HLok : Hid (LOk c L2 ∧ L2.length = min P.length 400) := ⟨⟨Hok.out.1, by omega, HL2.out.1.plc, fun T hT z hz => by
            obtain ⟨j, hj⟩ := List.getElem?_of_mem hT
            have := (List.getElem?_eq_some_iff.1 hj).1
            rw [thr_ky HL2.out.2.1]
            exact HL2.out.2.2 j T (by omega) hj z hz⟩, by have h1 := HLk.out.1; have h2 := HnL.out.1; have h3 := Hkx.out; have h4 := HN0.out; omega⟩
          have HLt : Hid (Lt wr (B + 1) c (tps c L2)) := by
            rw [tps_ky c HL2.out.2.1]
            exact HQ2.out.lt_ Hq4.out
          go_wp2_with fail
          go_ret
          exact ⟨_, rfl, c, L2, HLy, HLok.out.1, HLok.out.2, HL2.out.1, Hok.out.2, HQ2.out.be, HLt.out⟩

end Go.Proofs.YtbgnagjhkfkekaaGreatDoor
