/-
  Build.
-/
import Derived.Test.YtbgnagjhkfkekaaGreatDoorPYb
import Derived.Test.YtbgnagjhkfkekaaGreatDoorYQ
set_option linter.unusedVariables false
set_option maxRecDepth 20000
namespace Go.Proofs.YtbgnagjhkfkekaaGreatDoor
open Go.RowKit Go.Shelf

/-- The words behind i things of a lay, no field written yet. -/
def lw1 (L : List LT) : Nat → Nat → Int
  | 0 => fun _ => 0
  | i + 1 => match L[i]? with
    | none => lw1 L i
    | some T => if T.at_ = 0 then lw1 L i else if 0 < T.fill then upd (zer (lw1 L i) T.at_.toNat T.fill.toNat) T.at_.toNat (T.fill * 4 + 3) else putw (lw1 L i) T.at_.toNat (2 + T.p + T.r).toNat (wrd T.k T.p T.r T.a T.t T.h) T.s

/-- k pointer fields of a thing are written. -/
def lwp (L : List LT) (T : LT) (ws : Nat → Int) : Nat → Nat → Int
  | 0 => ws
  | k + 1 => upd (lwp L T ws k) (T.at_.toNat + 2 + k) (plc L (T.ps[k]?.getD 0))

/-- k raw fields of a thing are written. -/
def lwr (T : LT) (ws : Nat → Int) : Nat → Nat → Int
  | 0 => ws
  | k + 1 => upd (lwr T ws k) (T.at_.toNat + (2 + T.p.toNat) + k) (T.rs[k]?.getD 0)

/-- The words behind i things' fields. -/
def lw2 (L : List LT) : Nat → Nat → Int
  | 0 => lw1 L L.length
  | i + 1 => match L[i]? with
    | none => lw2 L i
    | some T => if 0 < T.at_ then lwr T (lwp L T (lw2 L i) T.ps.length) T.rs.length else lw2 L i

theorem lw1_skip {L : List LT} {i : Nat} {T : LT} (h : L[i]? = some T) (ha : T.at_ = 0) : lw1 L (i + 1) = lw1 L i := by
  show (match L[i]? with | none => _ | some T => _) = _
  rw [h]
  exact if_pos ha
theorem lw1_fill {L : List LT} {i : Nat} {T : LT} (h : L[i]? = some T) (ha : T.at_ ≠ 0) (hf : 0 < T.fill) : lw1 L (i + 1) = upd (zer (lw1 L i) T.at_.toNat T.fill.toNat) T.at_.toNat (T.fill * 4 + 3) := by
  show (match L[i]? with | none => _ | some T => _) = _
  rw [h]
  exact (if_neg ha).trans (if_pos hf)
theorem lw1_put {L : List LT} {i : Nat} {T : LT} (h : L[i]? = some T) (ha : T.at_ ≠ 0) (hf : ¬ 0 < T.fill) : lw1 L (i + 1) = putw (lw1 L i) T.at_.toNat (2 + T.p + T.r).toNat (wrd T.k T.p T.r T.a T.t T.h) T.s := by
  show (match L[i]? with | none => _ | some T => _) = _
  rw [h]
  exact (if_neg ha).trans (if_neg hf)
theorem lwp_next {L : List LT} {T : LT} {ws : Nat → Int} {k : Nat} {z : Int} (h : T.ps[k]? = some z) : lwp L T ws (k + 1) = upd (lwp L T ws k) (T.at_.toNat + 2 + k) (plc L z) := by
  show upd _ _ (plc L (T.ps[k]?.getD 0)) = _
  rw [h]
  rfl
theorem lwr_next {T : LT} {ws : Nat → Int} {k : Nat} {z : Int} (h : T.rs[k]? = some z) : lwr T ws (k + 1) = upd (lwr T ws k) (T.at_.toNat + (2 + T.p.toNat) + k) z := by
  show upd _ _ (T.rs[k]?.getD 0) = _
  rw [h]
  rfl
theorem lw2_obj {L : List LT} {i : Nat} {T : LT} (h : L[i]? = some T) (ha : 0 < T.at_) : lw2 L (i + 1) = lwr T (lwp L T (lw2 L i) T.ps.length) T.rs.length := by
  show (match L[i]? with | none => _ | some T => _) = _
  rw [h]
  exact if_pos ha
theorem lw2_skip {L : List LT} {i : Nat} {T : LT} (h : L[i]? = some T) (ha : ¬ 0 < T.at_) : lw2 L (i + 1) = lw2 L i := by
  show (match L[i]? with | none => _ | some T => _) = _
  rw [h]
  exact if_neg ha

/-- What Build writes. -/
def wlay (L : List LT) : Nat → Int := lw2 L L.length

set_option maxHeartbeats 16000000 in
theorem build_ex {n1 : Nat} {w : World} {lb : Nat} {c : Cfg} {L : List LT} (hl : Ly n1 w lb c L) (hn1 : n1 ≤ w.heap.size) (ok : LOk c L) (hL : Laid w) (t0 : 1 < n1) (t1 : 0 < n1) :
    Calls Tryz.prog 5 #[.pointer (some ⟨lb, 0, none⟩)] w fun e w' => ∃ b, e = .returned (.tuple #[.pointer (some ⟨b, 0, none⟩), .bool true]) ∧ ∃ g th, Bq w n1 w' b g c (tps c L) false (wlay L) th ∧ Sk L th ∧ ∀ T, T ∈ th → Full L T := by
  have HLy : Hid (Ly n1 w lb c L) := hl
  have HOk : Hid (LOk c L) := ok
  have HLd : Hid (Laid w) := hL
  have Ht : Hid (1 < n1 ∧ 0 < n1) := ⟨t0, t1⟩
  have hlen := ok.len
  have hnew := new_yes c ok.cok w
  have k0 : w.cell? ⟨lb, 0, none⟩ = some (.int .i64 c.eden) := hl.cfg 0 (by decide)
  have k1 : w.cell? ⟨lb, 1, none⟩ = some (.int .i64 c.surv) := hl.cfg 1 (by decide)
  have k2 : w.cell? ⟨lb, 2, none⟩ = some (.int .i64 c.ten) := hl.cfg 2 (by decide)
  have k3 : w.cell? ⟨lb, 3, none⟩ = some (.int .i64 c.large) := hl.cfg 3 (by decide)
  have k4 : w.cell? ⟨lb, 4, none⟩ = some (.int .i64 c.floor) := hl.cfg 4 (by decide)
  have k5 : w.cell? ⟨lb, 5, none⟩ = some (.int .i64 c.num) := hl.cfg 5 (by decide)
  have k6 : w.cell? ⟨lb, 6, none⟩ = some (.int .i64 c.den) := hl.cfg 6 (by decide)
  have k7 : w.cell? ⟨lb, 7, none⟩ = some (.int .i64 c.target) := hl.cfg 7 (by decide)
  have k8 : w.cell? ⟨lb, 8, none⟩ = some (.int .i64 c.maxAge) := hl.cfg 8 (by decide)
  have k9 : w.cell? ⟨lb, 9, none⟩ = some (.int .i64 c.threads) := hl.cfg 9 (by decide)
  have k10 : w.cell? ⟨lb, 10, none⟩ = some (.int .i64 c.slots) := hl.cfg 10 (by decide)
  have k11 : w.cell? ⟨lb, 11, none⟩ = some (.int .i64 c.handles) := hl.cfg 11 (by decide)
  have k12 : w.cell? ⟨lb, 12, none⟩ = some (.int .i64 c.buffer) := hl.cfg 12 (by decide)
  have k13 : w.cell? ⟨lb, 13, none⟩ = some (.int .i64 c.workers) := hl.cfg 13 (by decide)
  clear hl ok hL t0 t1
  go_enter Tryz.func5, Tryz.ntmps5
  go_wp2_with fail
  refine hnew.mono ?_
  rintro e w1 ⟨b, g, rfl, A1, l1, hb1, hg1⟩
  have B1 : Hid (Bq w n1 w1 b g c (tps c (L.take 0)) false (fun _ => 0) []) := by
    have e : tps c (L.take 0) = tops0 c := by simp [tps]
    rw [e]
    exact ⟨⟨A1, HLd.out.keep l1, Hld.nil (fun s => by unfold tops0 Tps.top fst; rfl)⟩, l1.mono hn1, by omega, by omega, Ht.out.1, Ht.out.2⟩
  clear hnew k0 k1 k2 k3 k4 k5 k6 k7 k8 k9 k10 k11 k12 k13 A1 l1 hb1 hg1 HLd
  go_wp2
  go_loopw [6] (fun v6 wr => ∃ i : Nat, i ≤ L.length ∧ v6 = .int .i64 i ∧ ∃ ws th, Hid (ws = lw1 L i) ∧ Hid (Bq w n1 wr b g c (tps c (L.take i)) false ws th) ∧ Hid (Sk (L.take i) th) ∧ Hid (∀ T, T ∈ th → 0 < T.no ∧ ∀ o, L[T.no - 1]? = some o → T.h = o.h)) (fun v6 _ => L.length - (intOf v6).toNat)
  case atStart => exact ⟨0, Nat.zero_le _, rfl, _, [], (rfl : (fun _ => 0) = lw1 L 0), B1, Sk.nil, (fun T h => by simp at h : ∀ T, T ∈ ([] : List Tng) → 0 < T.no ∧ ∀ o, L[T.no - 1]? = some o → T.h = o.h)⟩
  case round =>
    obtain ⟨i, hi, rfl, ws, th, HE, HB, HS, HH⟩ := hrel
    clear B1
    by_cases hlt : i < L.length
    · have hT : L[i]? = some (L[i]'hlt) := List.getElem?_eq_getElem hlt
      generalize L[i]'hlt = T at hT
      have HT : Hid (L[i]? = some T) := hT
      have HTk : Hid (T.Ok c (tps c (L.take i))) := HOk.out.plc i T hT
      have hly := HLy.out.below HB.out.be
      obtain ⟨q, off, cap, q', off', cap', l14, l15, cs, ka, -, -, hcp⟩ := hly.thing hT
      obtain ⟨-, -, hpr⟩ : True ∧ True ∧ True := ⟨trivial, trivial, trivial⟩
      have HIn : Hid T.In := by
        obtain ⟨v, -, a, cap, -, h2⟩ := hly.things
        exact (h2 i T hT).1
      have hvp : ∃ a n m, T.vp = .slice a n m := by
        obtain ⟨v, -, a, cap, -, h2⟩ := hly.things
        obtain ⟨-, ⟨a, cap, e, -⟩, -⟩ := h2 i T hT
        exact ⟨_, _, _, e⟩
      have hvr : ∃ a n m, T.vr = .slice a n m := by
        obtain ⟨v, -, a, cap, -, h2⟩ := hly.things
        obtain ⟨-, -, ⟨a, cap, e, -⟩, -⟩ := h2 i T hT
        exact ⟨_, _, _, e⟩
      have d0 : wr.cell? ⟨q, off + i * 11, none⟩ = some (.int .i64 T.sp) := cs 0 (by decide)
      have d1 : wr.cell? ⟨q, off + i * 11 + 1, none⟩ = some (.int .u64 T.s) := cs 1 (by decide)
      have d2 : wr.cell? ⟨q, off + i * 11 + 2, none⟩ = some (.int .i64 T.k) := cs 2 (by decide)
      have d3 : wr.cell? ⟨q, off + i * 11 + 3, none⟩ = some (.int .i64 T.p) := cs 3 (by decide)
      have d4 : wr.cell? ⟨q, off + i * 11 + 4, none⟩ = some (.int .i64 T.r) := cs 4 (by decide)
      have d5 : wr.cell? ⟨q, off + i * 11 + 5, none⟩ = some (.int .i64 T.a) := cs 5 (by decide)
      have d6 : wr.cell? ⟨q, off + i * 11 + 6, none⟩ = some (.int .i64 T.t) := cs 6 (by decide)
      have d7 : wr.cell? ⟨q, off + i * 11 + 7, none⟩ = some (.bool T.h) := cs 7 (by decide)
      have d8 : wr.cell? ⟨q, off + i * 11 + 8, none⟩ = some T.vp := cs 8 (by decide)
      have d9 : wr.cell? ⟨q, off + i * 11 + 9, none⟩ = some T.vr := cs 9 (by decide)
      have d10 : wr.cell? ⟨q, off + i * 11 + 10, none⟩ = some (.int .i64 T.fill) := cs 10 (by decide)
      have dd := Lc.new wr T
      have lb0 : Below wr.heap.size wr (wr.alloc (.cells T.cells 63)) := Below.alloc (Below.refl _ _) (Nat.le_refl _) _
      have HB1 : Hid (Bq w n1 (wr.alloc (.cells T.cells 63)) b g c (tps c (L.take i)) false ws th) := HB.out.below hn1 lb0
      have m15 : (wr.alloc (.cells T.cells 63)).cell? ⟨lb, 15, none⟩ = some (.slice (some ⟨q', off', none⟩) L.length cap') := (lb0.cell (World.block_lt_of_cell? _ _ l15)).trans l15
      have ma : (wr.alloc (.cells T.cells 63)).cell? ⟨q', off' + i, none⟩ = some (.int .i64 T.at_) := (lb0.cell (World.block_lt_of_cell? _ _ ka)).trans ka
      clear cs hly HB lb0 hT
      obtain ⟨p1, p2, p3, hvp⟩ := hvp
      obtain ⟨r1, r2, r3, hvr⟩ := hvr
      rw [hvp] at d8
      rw [hvr] at d9
      have hcells : T.cells = lcells T.sp T.s T.k T.p T.r T.a T.t T.h (.slice p1 p2 p3) (.slice r1 r2 r3) T.fill := by rw [← hvp, ← hvr]
      rw [hcells] at dd HB1 m15 ma
      have hstep := tps_take c L i T HT.out
      have HSt : Hid (tps c (L.take (i + 1)) = stp (tps c (L.take i)) T) := hstep
      clear hstep hpr
      generalize hN : L.length = N at *
      have HN : Hid (L.length = N) := hN
      clear hN
      go_upto_region 8 with fail
      clear d0 d1 d2 d3 d4 d5 d6 d7 d8 d9 d10
      obtain ⟨v, hv⟩ : ∃ v, v = wr.alloc (.cells (lcells T.sp T.s T.k T.p T.r T.a T.t T.h (.slice p1 p2 p3) (.slice r1 r2 r3) T.fill) 63) := ⟨_, rfl⟩
      obtain ⟨R, hR⟩ : ∃ R, R = wr.heap.size := ⟨_, rfl⟩
      rw [← hv] at dd HB1 m15 ma ⊢
      rw [← hR] at dd ⊢
      clear hv hR l14 l15 ka
      have HD : Hid (Lc v R T) := dd
      have d0 : v.cell? ⟨R, 0, none⟩ = some (.int .i64 T.sp) := dd.cell 0
      have d1 : v.cell? ⟨R, 1, none⟩ = some (.int .u64 T.s) := dd.cell 1
      have d2 : v.cell? ⟨R, 2, none⟩ = some (.int .i64 T.k) := dd.cell 2
      have d3 : v.cell? ⟨R, 3, none⟩ = some (.int .i64 T.p) := dd.cell 3
      have d4 : v.cell? ⟨R, 4, none⟩ = some (.int .i64 T.r) := dd.cell 4
      have d5 : v.cell? ⟨R, 5, none⟩ = some (.int .i64 T.a) := dd.cell 5
      have d6 : v.cell? ⟨R, 6, none⟩ = some (.int .i64 T.t) := dd.cell 6
      have d7 : v.cell? ⟨R, 7, none⟩ = some (.bool T.h) := dd.cell 7
      have d10 : v.cell? ⟨R, 10, none⟩ = some (.int .i64 T.fill) := dd.cell 10
      clear dd
      by_cases ha : T.at_ = 0
      · rw [ha] at ma
        have HS2 : Hid (Sk (L.take (i + 1)) th) := by
          show Sk _ _
          rw [List.take_add_one, HT.out]
          exact HS.out.skip (by omega)
        have HB2 : Hid (Bq w n1 v b g c (tps c (L.take (i + 1))) false ws th) := by
          show Bq _ _ _ _ _ _ _ _ _ _
          rw [HSt.out]
          unfold stp
          rw [if_pos ha]
          exact HB1.out
        have HE2 : Hid (ws = lw1 L (i + 1)) := by
          show ws = _
          rw [lw1_skip HT.out ha]
          exact HE.out
        clear HB1 HS HD HSt HTk HIn HT HE
        go_wp2
        go_roundw
        case rel => exact ⟨i + 1, by omega, by go_num, ws, th, HE2, HB2, HS2, HH⟩
        case measure => simp [intOf]; omega
      · have ha' : (T.at_ == 0) = false := by simpa using ha
        have hat : T.at_ = (tps c (L.take i)).top T.sp ∧ T.at_ + T.sz ≤ bhd c T.sp := by
          rcases HTk.out.at_ with e | e
          · exact absurd e ha
          · exact e
        have hsub := HB1.out.ax.ar.sub_in T.sp
        have hfp : 1 ≤ fst c T.sp := by
          have h1 := HTk.out.s1
          have h4 := HTk.out.s4
          have := HB1.out.ax.ar.ok.e0; have := HB1.out.ax.ar.ok.s0
          obtain e | e | e | e : T.sp = 1 ∨ T.sp = 2 ∨ T.sp = 3 ∨ T.sp = 4 := by omega
          all_goals
            rw [e]
            simp [fst]
            try omega
        have Hat : Hid (0 < T.at_) := by show 0 < T.at_; omega
        have HXn : Hid (tps c (L.take (i + 1)) = (tps c (L.take i)).put T.sp ((tps c (L.take i)).top T.sp + T.sz)) := by
          show _ = _
          rw [HSt.out]
          unfold stp
          rw [if_neg ha]
        clear HSt
        by_cases hf : 0 < T.fill
        · have hf' : decide (0 < T.fill) = true := by simpa using hf
          have hsz : T.sz = T.fill := by unfold LT.sz; rw [if_pos hf]
          have hcall := HB1.out.ax.fill_ex T.sp T.fill ⟨HTk.out.s1, HTk.out.s4⟩ hf (by omega)
          rw [← hat.1] at hcall
          have Heq : Hid ((tps c (L.take i)).top T.sp = T.at_) := hat.1.symm
          have HE2 : Hid (upd (zer ws T.at_.toNat T.fill.toNat) T.at_.toNat (T.fill * 4 + 3) = lw1 L (i + 1)) := by
            show _ = _
            rw [lw1_fill HT.out ha hf, HE.out]
          have HS2 : Hid (Sk (L.take (i + 1)) th) := by
            show Sk _ _
            rw [List.take_add_one, HT.out]
            exact HS.out.skip (by omega)
          clear hat hsub hfp
          go_wp2_with fail
          refine hcall.mono ?_
          rintro e w5 ⟨rfl, t5, ws5, E5, A5, H5⟩
          have HE5 : Hid (ws5 = lw1 L (i + 1)) := E5.trans HE2.out
          have HB5 : Hid (Bq w n1 w5 b g c (tps c (L.take (i + 1))) false ws5 th) := by
            show Bq _ _ _ _ _ _ _ _ _ _
            rw [HXn.out, hsz, Heq.out]
            exact HB1.out.next hn1 t5 A5 H5
          clear hcall d0 d1 d2 d3 d4 d5 d6 d7 d10 ma m15 t5 A5 H5 HB1 HD HTk HIn HT HXn hsz HS Heq E5 HE HE2
          go_wp2
          go_roundw
          case rel => exact ⟨i + 1, by omega, by go_num, ws5, th, HE5, HB5, HS2, HH⟩
          case measure => simp [intOf]; omega
        · have hf' : decide (0 < T.fill) = false := by simpa using hf
          have hf0 : T.fill = 0 := by have := HTk.out.f0; omega
          obtain ⟨o1, o2, o3⟩ := HTk.out.obj hf0
          have hsz : T.sz = 2 + T.p + T.r := by unfold LT.sz; rw [if_neg hf, o2, o3]
          have HE2 : Hid (putw ws T.at_.toNat (2 + T.p + T.r).toNat (wrd T.k T.p T.r T.a T.t T.h) T.s = lw1 L (i + 1)) := by
            show _ = _
            rw [lw1_put HT.out ha hf, HE.out]
          have hcall := HB1.out.ax.put_ex T.sp T.s T.k T.p T.r T.a T.t T.h (i + 1) ⟨HTk.out.s1, HTk.out.s4⟩ HIn.out.s o1 (by omega)
          rw [← hat.1] at hcall
          have HS2 : Hid (Sk (L.take (i + 1)) (th ++ [⟨T.at_, T.sp, T.s, T.k, T.p, T.r, T.a, T.t, T.h, i + 1, List.replicate T.p.toNat 0, List.replicate T.r.toNat 0⟩])) := by
            show Sk _ _
            rw [List.take_add_one, HT.out]
            refine HS.out.obj ⟨rfl, rfl, rfl, rfl, rfl, rfl, rfl, rfl, by simp; omega, by simp; omega⟩ ?_ Hat.out hf0
            have := HN.out
            simp
            omega
          have HH2 : Hid (∀ V, V ∈ (th ++ [⟨T.at_, T.sp, T.s, T.k, T.p, T.r, T.a, T.t, T.h, i + 1, List.replicate T.p.toNat 0, List.replicate T.r.toNat 0⟩]) → 0 < V.no ∧ ∀ o, L[V.no - 1]? = some o → V.h = o.h) := by
            intro V hV
            rw [List.mem_append] at hV
            rcases hV with hV | hV
            · exact HH.out V hV
            · simp at hV
              subst hV
              refine ⟨by show 0 < i + 1; omega, fun o ho => ?_⟩
              have ho' : L[i]? = some o := ho
              rw [HT.out] at ho'
              simp at ho'
              rw [← ho']
          have Heq : Hid ((tps c (L.take i)).top T.sp = T.at_) := hat.1.symm
          clear hat hsub hfp o1 o2 o3
          go_wp2_with fail
          refine hcall.mono ?_
          rintro e w5 ⟨rfl, t5, ws5, E5, A5, H5⟩
          have HE5 : Hid (ws5 = lw1 L (i + 1)) := E5.trans HE2.out
          clear E5 HE HE2
          have HB5 : Hid (Bq w n1 w5 b g c (tps c (L.take (i + 1))) false ws5 (th ++ [⟨T.at_, T.sp, T.s, T.k, T.p, T.r, T.a, T.t, T.h, i + 1, List.replicate T.p.toNat 0, List.replicate T.r.toNat 0⟩])) := by
            show Bq _ _ _ _ _ _ _ _ _ _
            rw [HXn.out, hsz, Heq.out]
            exact HB1.out.next hn1 t5 A5 H5
          have lt1 := World.block_lt_of_cell? _ _ m15
          have lt2 := World.block_lt_of_cell? _ _ ma
          have n15 : w5.cell? ⟨lb, 15, none⟩ = some (.slice (some ⟨q', off', none⟩) N cap') := by
            obtain ⟨a0, c0, a1, c1, x1, x2⟩ := (HLy.out.below HB5.out.be).lens
            obtain ⟨q2, of2, cp2, q3, of3, cp3, y1, y2, -, y4, -, -, -⟩ := (HLy.out.below HB5.out.be).thing HT.out
            obtain ⟨q4, of4, cp4, q5, of5, cp5, z1, z2, -, z4, -, -, -⟩ := (HLy.out.below HB1.out.be).thing HT.out
            rw [m15] at z2
            have y5 := (HLy.out.below HB1.out.be)
            have hb := (t5.block lb lt1 (by have := HB1.out.lb; have := HB1.out.lg; have := HLy.out.lt; simp; omega))
            exact (World.cell?_of_block (w := v) hb).trans m15
          have na : w5.cell? ⟨q', off' + i, none⟩ = some (.int .i64 T.at_) := by
            have hq' : q' < n1 := by
              obtain ⟨q4, of4, cp4, q5, of5, cp5, z1, z2, -, z4, z5, z6, -⟩ := (HLy.out.below HB1.out.be).thing HT.out
              rw [m15] at z2
              simp at z2
              omega
            have hb := (t5.block q' lt2 (by have := HB1.out.lb; have := HB1.out.lg; simp; omega))
            exact (World.cell?_of_block (w := v) hb).trans ma
          clear hcall d0 d1 d2 d3 d4 d5 d6 d7 d10 ma m15 t5 A5 H5 HB1 HD HTk HIn HT HXn hsz HS HH Heq lt1 lt2
          go_wp2
          go_roundw
          case rel => exact ⟨i + 1, by omega, by go_num, ws5, _, HE5, HB5, HS2, HH2⟩
          case measure => simp [intOf]; omega
    · have hie : i = L.length := by omega
      have HB2 : Hid (Bq w n1 wr b g c (tps c L) false ws th) := by
        have := HB.out
        rw [hie, List.take_length] at this
        exact this
      have HS2 : Hid (Sk L th) := by
        have := HS.out
        rw [hie, List.take_length] at this
        exact this
      have HE2 : Hid (ws = lw2 L 0) := by
        show ws = lw1 L L.length
        rw [← hie]
        exact HE.out
      have HF2 : Hid (∀ T, T ∈ th → Fl L 0 0 0 T) := fun T hT => Fl.zero (HH.out T hT).2 (HH.out T hT).1 rfl
      obtain ⟨a0, cap0, a1, cap1, l14, l15⟩ := (HLy.out.below HB.out.be).lens
      have hdn : ¬ (i : Int) < (L.length : Int) := by omega
      clear HB HS HH HE
      go_wp2
      clear l14 l15 hdn hie hi hlt
      go_loopw [11] (fun v11 wr => ∃ i : Nat, i ≤ L.length ∧ v11 = .int .i64 i ∧ ∃ ws th, Hid (ws = lw2 L i) ∧ Hid (Bq w n1 wr b g c (tps c L) false ws th) ∧ Hid (Sk L th) ∧ Hid (∀ T, T ∈ th → Fl L i 0 0 T)) (fun v11 _ => L.length - (intOf v11).toNat)
      case atStart => exact ⟨0, Nat.zero_le _, rfl, _, th, HE2, HB2, HS2, HF2⟩
      case round =>
        obtain ⟨i, hi, rfl, ws, th, HE, HB, HS, HF⟩ := hrel
        clear HB2 HS2 HF2 HE2
        by_cases hlt : i < L.length
        · have hT : L[i]? = some (L[i]'hlt) := List.getElem?_eq_getElem hlt
          generalize L[i]'hlt = T at hT
          have HT : Hid (L[i]? = some T) := hT
          have HTk : Hid (T.Ok c (tps c (L.take i))) := HOk.out.plc i T hT
          have hly := HLy.out.below HB.out.be
          obtain ⟨q, off, cap, q', off', cap', l14, l15, cs, ka, hq0, hq1, hcp⟩ := hly.thing hT
          have HIn : Hid (T.In ∧ Lrd n1 wr T.vp .i64 T.ps ∧ Lrd n1 wr T.vr .u64 T.rs) := by
            obtain ⟨v, -, a, cap, -, h2⟩ := hly.things
            obtain ⟨h3, h4, h5, -⟩ := h2 i T hT
            exact ⟨h3, h4, h5⟩
          obtain ⟨-, ⟨p1, p3, hvp, -, -⟩, r1, r3, hvr, -, -⟩ := HIn.out
          have d0 : wr.cell? ⟨q, off + i * 11, none⟩ = some (.int .i64 T.sp) := cs 0 (by decide)
          have d1 : wr.cell? ⟨q, off + i * 11 + 1, none⟩ = some (.int .u64 T.s) := cs 1 (by decide)
          have d2 : wr.cell? ⟨q, off + i * 11 + 2, none⟩ = some (.int .i64 T.k) := cs 2 (by decide)
          have d3 : wr.cell? ⟨q, off + i * 11 + 3, none⟩ = some (.int .i64 T.p) := cs 3 (by decide)
          have d4 : wr.cell? ⟨q, off + i * 11 + 4, none⟩ = some (.int .i64 T.r) := cs 4 (by decide)
          have d5 : wr.cell? ⟨q, off + i * 11 + 5, none⟩ = some (.int .i64 T.a) := cs 5 (by decide)
          have d6 : wr.cell? ⟨q, off + i * 11 + 6, none⟩ = some (.int .i64 T.t) := cs 6 (by decide)
          have d7 : wr.cell? ⟨q, off + i * 11 + 7, none⟩ = some (.bool T.h) := cs 7 (by decide)
          have d8 : wr.cell? ⟨q, off + i * 11 + 8, none⟩ = some T.vp := cs 8 (by decide)
          have d9 : wr.cell? ⟨q, off + i * 11 + 9, none⟩ = some T.vr := cs 9 (by decide)
          have d10 : wr.cell? ⟨q, off + i * 11 + 10, none⟩ = some (.int .i64 T.fill) := cs 10 (by decide)
          have dd := Lc.new wr T
          have lb0 : Below wr.heap.size wr (wr.alloc (.cells T.cells 63)) := Below.alloc (Below.refl _ _) (Nat.le_refl _) _
          have HB1 : Hid (Bq w n1 (wr.alloc (.cells T.cells 63)) b g c (tps c L) false ws th) := HB.out.below hn1 lb0
          clear cs hly HB lb0 hT
          rw [hvp] at d8
          rw [hvr] at d9
          have hcells : T.cells = lcells T.sp T.s T.k T.p T.r T.a T.t T.h (.slice p1 T.ps.length p3) (.slice r1 T.rs.length r3) T.fill := by rw [← hvp, ← hvr]
          rw [hcells] at dd HB1
          obtain ⟨N, hN⟩ : ∃ N, N = L.length := ⟨_, rfl⟩
          rw [← hN] at l14 l15 hcp hlt
          have HN : Hid (N = L.length) := hN
          clear hN
          go_upto_region 20 with fail
          clear d0 d1 d2 d3 d4 d5 d6 d7 d8 d9 d10
          obtain ⟨v, hv⟩ : ∃ v, v = wr.alloc (.cells (lcells T.sp T.s T.k T.p T.r T.a T.t T.h (.slice p1 T.ps.length p3) (.slice r1 T.rs.length r3) T.fill) 63) := ⟨_, rfl⟩
          obtain ⟨R, hR⟩ : ∃ R, R = wr.heap.size := ⟨_, rfl⟩
          rw [← hv] at dd HB1 ⊢
          rw [← hR] at dd ⊢
          clear hv hR l14 l15 ka
          have HD : Hid (Lc v R T) := dd
          clear dd
          have hpl := HTk.out.few
          by_cases ha : 0 < T.at_
          · have hfl0 : ∀ (x : Nat), (x < T.ps.length ∨ x < T.rs.length) → T.fill = 0 := fun x hx => by
              have h0 := HTk.out.f0
              by_cases e : 0 < T.fill
              · obtain ⟨e1, e2⟩ := HTk.out.fil e
                rw [e1, e2] at hx
                simp at hx
              · omega
            have HFl : Hid (∀ (x : Nat), (x < T.ps.length ∨ x < T.rs.length) → T.fill = 0) := hfl0
            have Hnext : Hid (∀ th, Sk L th → (∀ U, U ∈ th → Fl L i T.ps.length T.rs.length U) → ∀ U, U ∈ th → Fl L (i + 1) 0 0 U) := fun th h1 h2 => Fl.next h1 h2 (fun o ho _ _ => by rw [HT.out] at ho; simp at ho; subst ho; exact ⟨Nat.le_refl _, Nat.le_refl _⟩)
            have Hz : Hid (∀ z, z ∈ T.ps → InI z) := fun z hz => by
              have := HOk.out.len
              rcases HOk.out.ptr T (List.mem_of_getElem? HT.out) z hz with e | e
              · subst e; exact ⟨by decide, by decide⟩
              · obtain ⟨o, ho⟩ := thr_iff.1 e
                obtain ⟨h1, h2, -⟩ := ob_some.1 ho
                have := (List.getElem?_eq_some_iff.1 h2).1
                unfold InI
                omega
            have Hvp : Hid (T.vp = .slice p1 T.ps.length p3 ∧ T.vr = .slice r1 T.rs.length r3 ∧ T.cells = lcells T.sp T.s T.k T.p T.r T.a T.t T.h (.slice p1 T.ps.length p3) (.slice r1 T.rs.length r3) T.fill) := ⟨hvp, hvr, hcells⟩
            have HIn2 : Hid (∀ W, Below n1 w W → Lrd n1 W T.vp .i64 T.ps ∧ Lrd n1 W T.vr .u64 T.rs) := fun W hW => by
              obtain ⟨v, -, a, cap, -, h2⟩ := (HLy.out.below hW).things
              obtain ⟨h3, h4, h5, -⟩ := h2 i T HT.out
              exact ⟨h4, h5⟩
            have HWd : Hid (∀ z, z ∈ T.rs → Wd z) := HIn.out.1.rs
            clear hfl0 hcells hvp hvr HIn
            go_wp2
            go_loopw [13] (fun v13 wr => ∃ k : Nat, k ≤ T.ps.length ∧ v13 = .int .i64 k ∧ ∃ ws th, Hid (ws = lwp L T (lw2 L i) k) ∧ Hid (Bq w n1 wr b g c (tps c L) false ws th) ∧ Hid (Sk L th) ∧ Hid (∀ U, U ∈ th → Fl L i k 0 U) ∧ Hid (Lc wr R T)) (fun v13 _ => T.ps.length - (intOf v13).toNat)
            case atStart => exact ⟨0, Nat.zero_le _, rfl, ws, th, HE, HB1, HS, HF, HD⟩
            case round =>
              obtain ⟨k, hk, rfl, ws, th, HE2, HB2, HS2, HF2, HD2⟩ := hrel
              clear HB1 HS HF HD HE
              obtain ⟨qa, oa, cpa, qb, ob_, cpb, m14, m15, -, mb, -, -, mcp⟩ := (HLy.out.below HB2.out.be).thing HT.out
              rw [← HN.out] at m14 m15 mcp
              have e8 : wr.cell? ⟨R, 8, none⟩ = some (.slice p1 T.ps.length p3) := by rw [HD2.out.cell 8, Hvp.out.2.2]; rfl
              by_cases hkl : k < T.ps.length
              · have hzk : T.ps[k]? = some (T.ps[k]'hkl) := List.getElem?_eq_getElem hkl
                generalize T.ps[k]'hkl = z at hzk
                have Hzk : Hid (T.ps[k]? = some z) := hzk
                obtain ⟨qz, oz, ez, cz⟩ : ∃ qz oz, p1 = some ⟨qz, oz, none⟩ ∧ wr.cell? ⟨qz, oz + k, none⟩ = some (.int .i64 z) := by
                  obtain ⟨a, cap, h1, -, h2⟩ := (HIn2.out wr HB2.out.be).1
                  obtain ⟨q, o, h3, -, h4⟩ := h2 k z hzk
                  rw [Hvp.out.1] at h1
                  simp at h1
                  exact ⟨q, o, by rw [h1.1, h3], h4⟩
                rw [ez] at e8
                have hpl2 := place_any (HLy.out.below HB2.out.be) (Nat.le_trans hn1 HB2.out.be.size) HOk.out.len z (Hz.out z (List.mem_of_getElem? hzk))
                have hkI : (k : Int) < (T.ps.length : Int) := by omega
                clear hzk ez m14 m15 mb
                obtain ⟨qa, oa, cpa, qb, ob_, cpb, m14, m15, -, mb, -, -, mcp⟩ := (HLy.out.below HB2.out.be).thing HT.out
                rw [← HN.out] at m14 m15 mcp
                go_wp2_with fail
                refine hpl2.mono ?_
                rintro e w5 ⟨rfl, l5⟩
                have HB5 : Hid (Bq w n1 w5 b g c (tps c L) false ws th) := HB2.out.below hn1 l5
                have HD5 : Hid (Lc w5 R T) := HD2.out.below l5
                clear hpl2 l5 e8 cz m14 m15 mb HB2 HD2 mcp
                obtain ⟨qa, oa, cpa, qb, ob_, cpb, m14, m15, -, mb, -, -, mcp⟩ := (HLy.out.below HB5.out.be).thing HT.out
                rw [← HN.out] at m14 m15 mcp
                have ho : ob L ((i + 1 : Nat) : Int) = some T := ob_at HT.out ha (HFl.out k (.inl hkl))
                obtain ⟨j, U, hj, hno, hm⟩ := HS2.out.find ho
                obtain ⟨hp0, hp1⟩ := plc_in HS2.out HB5.out.ax z
                have HE3 : Hid (upd ws (T.at_.toNat + 2 + k) (plc L z) = lwp L T (lw2 L i) (k + 1)) := by
                  show _ = _
                  rw [lwp_next Hzk.out, HE2.out]
                have hcall := HB5.out.ax.setPtr_ex j U hj k (plc L z) (by rw [hm.pl]; exact hkl) hp0 hp1
                have HU : Hid (U.at_ = T.at_) := hm.at_
                rw [hm.at_] at hcall
                have HBn : Hid (∀ w6 ws', Touch [g] w5 w6 → Ar w6 b g c (tps c L) false ws' → Hld c (tps c L) ws' (th.set j { U with ps := U.ps.set k (plc L z) }) → Bq w n1 w6 b g c (tps c L) false ws' (th.set j { U with ps := U.ps.set k (plc L z) }) ∧ Lc w6 R T) := fun w6 ws' t hA hH => ⟨HB5.out.next hn1 t.one hA hH, HD5.out.touch HB5.out.ax.ar t.one⟩
                have HS3 : Hid (Sk L (th.set j { U with ps := U.ps.set k (plc L z) })) := HS2.out.set j U _ hj rfl (fun o h => h.ptr _ _)
                have HF3 : Hid (∀ V, V ∈ th.set j { U with ps := U.ps.set k (plc L z) } → Fl L i (k + 1) 0 V) := Fl.ptr HS2.out HF2.out j U hj (by omega) T HT.out z Hzk.out (by rw [hm.pl]; exact hkl)
                clear ho hj hno hm HS2 HF2 Hzk HB5 HD5
                generalize plc L z = pz at *
                go_wp2_with fail
                refine hcall.mono ?_
                rintro e w6 ⟨rfl, t6, ws6, E6, A6, H6⟩
                have HE6 : Hid (ws6 = lwp L T (lw2 L i) (k + 1)) := E6.trans HE3.out
                clear E6 HE3 HE2
                obtain ⟨b6, d6⟩ := HBn.out w6 ws6 t6 A6 (by rw [HU.out]; exact H6)
                have HB6 : Hid (Bq w n1 w6 b g c (tps c L) false ws6 (th.set j { U with ps := U.ps.set k pz })) := b6
                have HD6 : Hid (Lc w6 R T) := d6
                clear hcall t6 A6 H6 b6 d6 HBn m14 m15 mb
                go_wp2
                go_roundw
                case rel => exact ⟨k + 1, by omega, by go_num, ws6, _, HE6, HB6, HS3, HF3, HD6⟩
                case measure => simp [intOf]; omega
              · have hke : k = T.ps.length := by omega
                have hkn : ¬ (k : Int) < (T.ps.length : Int) := by omega
                have HF3 : Hid (∀ U, U ∈ th → Fl L i T.ps.length 0 U) := by rw [← hke]; exact HF2
                have HE3 : Hid (ws = lwp L T (lw2 L i) T.ps.length) := by rw [← hke]; exact HE2
                clear HF2 HE2
                go_wp2
                clear m14 m15 mb e8 hkn hke hk hkl mcp
                go_loopw [16] (fun v16 wr => ∃ k : Nat, k ≤ T.rs.length ∧ v16 = .int .i64 k ∧ ∃ ws th, Hid (ws = lwr T (lwp L T (lw2 L i) T.ps.length) k) ∧ Hid (Bq w n1 wr b g c (tps c L) false ws th) ∧ Hid (Sk L th) ∧ Hid (∀ U, U ∈ th → Fl L i T.ps.length k U) ∧ Hid (Lc wr R T)) (fun v16 _ => T.rs.length - (intOf v16).toNat)
                case atStart => exact ⟨0, Nat.zero_le _, rfl, ws, th, HE3, HB2, HS2, HF3, HD2⟩
                case round =>
                  obtain ⟨k, hk, rfl, ws, th, HE2, HB2, HS2, HF2, HD2⟩ := hrel
                  clear HF3 HE3
                  obtain ⟨qa, oa, cpa, qb, ob_, cpb, m14, m15, -, mb, -, -, mcp⟩ := (HLy.out.below HB2.out.be).thing HT.out
                  rw [← HN.out] at m14 m15 mcp
                  have e9 : wr.cell? ⟨R, 9, none⟩ = some (.slice r1 T.rs.length r3) := by rw [HD2.out.cell 9, Hvp.out.2.2]; rfl
                  by_cases hkl : k < T.rs.length
                  · have hzk : T.rs[k]? = some (T.rs[k]'hkl) := List.getElem?_eq_getElem hkl
                    generalize T.rs[k]'hkl = z at hzk
                    have Hzk : Hid (T.rs[k]? = some z) := hzk
                    obtain ⟨qz, oz, ez, cz⟩ : ∃ qz oz, r1 = some ⟨qz, oz, none⟩ ∧ wr.cell? ⟨qz, oz + k, none⟩ = some (.int .u64 z) := by
                      obtain ⟨a, cap, h1, -, h2⟩ := (HIn2.out wr HB2.out.be).2
                      obtain ⟨q, o, h3, -, h4⟩ := h2 k z hzk
                      rw [Hvp.out.2.1] at h1
                      simp at h1
                      exact ⟨q, o, by rw [h1.1, h3], h4⟩
                    rw [ez] at e9
                    have hkI : (k : Int) < (T.rs.length : Int) := by omega
                    have bd : Below wr.heap.size wr wr.drew := below_drewN (Below.refl _ _) 1
                    have HB5 : Hid (Bq w n1 wr.drew b g c (tps c L) false ws th) := HB2.out.below hn1 bd
                    have HD5 : Hid (Lc wr.drew R T) := HD2.out.below bd
                    have ho : ob L ((i + 1 : Nat) : Int) = some T := ob_at HT.out ha (HFl.out k (.inr hkl))
                    obtain ⟨j, U, hj, hno, hm⟩ := HS2.out.find ho
                    have HE3 : Hid (upd ws (T.at_.toNat + (2 + T.p.toNat) + k) z = lwr T (lwp L T (lw2 L i) T.ps.length) (k + 1)) := by
                      show _ = _
                      rw [lwr_next hzk, HE2.out]
                    have hcall := HB5.out.ax.setRaw_ex j U hj k z (by rw [hm.rl]; exact hkl) (HWd.out z (List.mem_of_getElem? hzk))
                    have HU : Hid (U.at_ = T.at_ ∧ U.p = T.p) := ⟨hm.at_, hm.p⟩
                    rw [hm.at_, hm.p] at hcall
                    have HBn : Hid (∀ w6 ws', Touch [g] wr.drew w6 → Ar w6 b g c (tps c L) false ws' → Hld c (tps c L) ws' (th.set j { U with rs := U.rs.set k z }) → Bq w n1 w6 b g c (tps c L) false ws' (th.set j { U with rs := U.rs.set k z }) ∧ Lc w6 R T) := fun w6 ws' t hA hH => ⟨HB5.out.next hn1 t.one hA hH, HD5.out.touch HB5.out.ax.ar t.one⟩
                    have HS3 : Hid (Sk L (th.set j { U with rs := U.rs.set k z })) := HS2.out.set j U _ hj rfl (fun o h => h.raw _ _)
                    have HF3 : Hid (∀ V, V ∈ th.set j { U with rs := U.rs.set k z } → Fl L i T.ps.length (k + 1) V) := Fl.raw HS2.out HF2.out j U hj (by omega) T HT.out z Hzk.out (by rw [hm.rl]; exact hkl)
                    clear ho hj hno hm HS2 HF2 Hzk HB5 HD5 hzk ez HB2 HD2 bd
                    go_upto_region 30 with fail
                    refine quiet_call 14 mixed (by kernel_rfl) ?_
                    simp only [List.take_succ_cons, List.take_zero, List.drop_succ_cons, List.drop_zero]
                    repeat (go_big_quiet_step (fail))
                    refine wpQuiet_nil ?_
                    go_wp2_with fail
                    refine hcall.mono ?_
                    rintro e w6 ⟨rfl, t6, ws6, E6, A6, H6⟩
                    have HE6 : Hid (ws6 = lwr T (lwp L T (lw2 L i) T.ps.length) (k + 1)) := E6.trans HE3.out
                    clear E6 HE3 HE2
                    obtain ⟨b6, d6⟩ := HBn.out w6 ws6 t6 A6 (by rw [HU.out.1, HU.out.2]; exact H6)
                    have HB6 : Hid (Bq w n1 w6 b g c (tps c L) false ws6 (th.set j { U with rs := U.rs.set k z })) := b6
                    have HD6 : Hid (Lc w6 R T) := d6
                    clear hcall t6 A6 H6 b6 d6 HBn m14 m15 mb e9 cz
                    go_wp2_with fail
                    refine thenQuiet_mk ?_
                    repeat (go_big_quiet_step (fail))
                    refine wpQuiet_nil ?_
                    go_wp2
                    go_roundw
                    case rel => exact ⟨k + 1, by omega, by go_num, ws6, _, HE6, HB6, HS3, HF3, HD6⟩
                    case measure => simp [intOf]; omega
                  · have hke : k = T.rs.length := by omega
                    have hkn : ¬ (k : Int) < (T.rs.length : Int) := by omega
                    have HF3 : Hid (∀ U, U ∈ th → Fl L (i + 1) 0 0 U) := Hnext.out th HS2.out (by rw [← hke]; exact HF2.out)
                    have HE3 : Hid (ws = lw2 L (i + 1)) := by
                      show ws = _
                      rw [lw2_obj HT.out ha, ← hke]
                      exact HE2.out
                    clear HF2 HE2
                    go_wp2
                    go_roundw
                    case rel => exact ⟨i + 1, by have := HN.out; omega, by go_num, ws, th, HE3, HB2, HS2, HF3⟩
                    case measure => have := HN.out; simp [intOf]; omega
          · have ha0 : T.at_ = 0 := by
              rcases HTk.out.at_ with e | ⟨e, -⟩
              · exact e
              · exfalso
                have h1 := (HOk.out.plc.tops HOk.out.cok i (by have := HN.out; omega)) T.sp HTk.out.s1 HTk.out.s4
                have h2 : 0 ≤ fst c T.sp := (HB1.out.ax.ar.sub_in T.sp).1
                have h3 : 1 ≤ fst c T.sp := by
                  have h1 := HTk.out.s1
                  have h4 := HTk.out.s4
                  have := HB1.out.ax.ar.ok.e0; have := HB1.out.ax.ar.ok.s0
                  obtain e | e | e | e : T.sp = 1 ∨ T.sp = 2 ∨ T.sp = 3 ∨ T.sp = 4 := by omega
                  all_goals
                    rw [e]
                    simp [fst]
                    try omega
                omega
            obtain ⟨qa, oa, cpa, qb, ob_, cpb, m14, m15, -, mb, -, -, mcp⟩ := (HLy.out.below HB1.out.be).thing HT.out
            rw [ha0] at mb
            rw [← HN.out] at m14 m15 mcp
            have e8 : v.cell? ⟨R, 8, none⟩ = some (.slice p1 T.ps.length p3) := by rw [HD.out.cell 8, hcells]; rfl
            have e9 : v.cell? ⟨R, 9, none⟩ = some (.slice r1 T.rs.length r3) := by rw [HD.out.cell 9, hcells]; rfl
            have HF2 : Hid (∀ T, T ∈ th → Fl L (i + 1) 0 0 T) := Fl.next HS.out HF.out (fun o ho h1 _ => by rw [HT.out] at ho; simp at ho; subst ho; omega)
            have HE2 : Hid (ws = lw2 L (i + 1)) := by
              show ws = _
              rw [lw2_skip HT.out ha]
              exact HE.out
            clear hcells hvp hvr HE
            generalize T.ps.length = np at *
            generalize T.rs.length = nr at *
            go_wp2
            go_loopw [13] (fun v13 wr => v13 = .int .i64 0 ∧ wr = v) (fun _ _ => 0)
            case atStart => exact ⟨rfl, rfl⟩
            case round =>
              obtain ⟨rfl, rfl⟩ := hrel
              by_cases hp : (0 : Int) < (np : Int)
              all_goals
                go_wp2
                go_loopw [16] (fun v16 wr' => v16 = .int .i64 0 ∧ wr' = wr) (fun _ _ => 0)
                case atStart => exact ⟨rfl, rfl⟩
                case round =>
                  obtain ⟨rfl, rfl⟩ := hrel
                  by_cases hr : (0 : Int) < (nr : Int)
                  all_goals
                    go_wp2
                    go_roundw
                    case rel => exact ⟨i + 1, by have := HN.out; omega, by go_num, ws, th, HE2, HB1, HS, HF2⟩
                    case measure => have := HN.out; simp [intOf]; omega
        · have hie : i = L.length := by omega
          have HF3 : Hid (∀ T, T ∈ th → Full L T) := by
            have := HF.out
            rw [hie] at this
            exact Fl.full HS.out this
          obtain ⟨a0, cap0, a1, cap1, l14, l15⟩ := (HLy.out.below HB.out.be).lens
          have hdn : ¬ (i : Int) < (L.length : Int) := by omega
          go_wp2
          go_ret2
          have HE2 : ws = wlay L := by
            show ws = lw2 L L.length
            rw [← hie]
            exact HE.out
          exact ⟨b, rfl, g, th, HE2 ▸ HB.out, HS.out, HF3.out⟩

theorem build_any {n1 : Nat} {w : World} {lb : Nat} {c : Cfg} {L : List LT} (hl : Ly n1 w lb c L) (hn1 : n1 ≤ w.heap.size) (ok : LOk c L) (hL : Laid w) (t0 : 1 < n1) (t1 : 0 < n1) :
    Calls Tryz.prog 5 #[.pointer (some ⟨lb, 0, none⟩)] w fun e w' => ∃ b, e = .returned (.tuple #[.pointer (some ⟨b, 0, none⟩), .bool true]) ∧ ∃ g ws th, Bq w n1 w' b g c (tps c L) false ws th ∧ Sk L th ∧ ∀ T, T ∈ th → Full L T := by
  refine (build_ex hl hn1 ok hL t0 t1).mono ?_
  rintro e w' ⟨b, h1, g, th, h2⟩
  exact ⟨b, h1, g, _, th, h2⟩

end Go.Proofs.YtbgnagjhkfkekaaGreatDoor
