/-
  PolicyTells: the document's Base; told. (mkPS2.py prints this text.)
-/
import Derived.Test.YtcijdbhabbepaaaGreatDoorPS1
import Derived.Test.YtcijdbhabbepaaaGreatDoorPOq
import Derived.Test.YtcijdbhabbepaaaGreatDoorKGM
import Derived.Deep.RegionHeld3
set_option linter.unusedVariables false
set_option maxRecDepth 20000
namespace Go.Proofs.YtcijdbhabbepaaaGreatDoor.Po
open Go.RowKit Go.Proofs.YtcijdbhabbepaaaGreatDoor.Kg

/-- An Ask in a block. -/
def Abx (w : World) (b : Nat) (x : Ask) : Prop := w.heap[b]? = some (.cells (acells x) 26 (0, 0))

theorem ask_cell {w : World} {b : Nat} {x : Ask} (h : Abx w b x) (j : Nat) (v : Value) (hv : (acells x)[j]? = some v) : w.cell? ⟨b, j, none⟩ = some v := (heap_cell h j).trans hv
theorem Abx.below {n0 : Nat} {w w' : World} {b : Nat} {x : Ask} (h : Abx w b x) (hb : Below n0 w w') (hl : b < n0) : Abx w' b x := (hb.block b hl).trans h

abbrev tk (x : Ask) : Task := mk12 x.c x.base x.kind x.words

theorem rbase_any {w : World} {base b : Nat} {v : Value} {c : Cfg} {k : Task} {t : Tst} (h : Rf w base b v c k t) (x : Vw) :
    Calls Tryz.prog 14 #[.pointer (some ⟨b, 0, none⟩), vv x] w fun e w' => e = .returned (.int .i64 (if 3 ∈ t.ran then clp x.te else k.first)) ∧ Below w.heap.size w w' := by
  obtain ⟨w0, hw0⟩ : ∃ x9, x9 = w.alloc (.cells #[.int .i64 x.er, .int .i64 x.yo, .int .i64 x.te, .int .i64 x.tr] 54) := ⟨_, rfl⟩
  have hb0 : Below w.heap.size w w0 := by rw [hw0]; exact Below.alloc (Below.refl _ _) (Nat.le_refl _) _
  have hg0 : w0.heap[w.heap.size]? = some (.cells #[.int .i64 x.er, .int .i64 x.yo, .int .i64 x.te, .int .i64 x.tr] 54 (0, 0)) := by rw [hw0]; exact heap_alloc_new w _
  have h0 := h.below hb0
  have qr := ran_any h0 3
  have qc := above_any x.te w0
  have HB : Hid (Below w.heap.size w w0) := hb0
  have g2 : w0.cell? ⟨w.heap.size, 2, none⟩ = some (.int .i64 x.te) := heap_cell hg0 2
  have c0 := h0.cell 16 (.int .i64 k.first) rfl
  clear h h0 hb0 hg0
  by_cases m3 : 3 ∈ t.ran
  · rw [decide_eq_true m3] at qr
    rw [if_pos m3]
    go_enter Tryz.func14, Tryz.ntmps14
    go_upto_region 1 with fail
    rw [← hw0]
    clear hw0
    go_wp2_with fail
    refine qr.mono ?_
    rintro e9 w9 ⟨rfl, rfl⟩
    clear qr
    go_wp2_with fail
    refine qc.mono ?_
    rintro e9 w2 ⟨rfl, rfl⟩
    clear qc g2 c0
    go_wp2
    go_returns
    exact ⟨rfl, HB.out⟩
  · rw [decide_eq_false m3] at qr
    rw [if_neg m3]
    go_enter Tryz.func14, Tryz.ntmps14
    go_upto_region 1 with fail
    rw [← hw0]
    clear hw0
    go_wp2_with fail
    refine qr.mono ?_
    rintro e9 w9 ⟨rfl, rfl⟩
    clear qr
    go_wp2
    go_returns
    exact ⟨rfl, HB.out⟩

/-- The document's turn, and what was asked, in a block of its own. -/
def Rx (w : World) (base rb : Nat) (v : Value) (X : Nat) (x : Ask) (t : Tst) : Prop := Rf w base rb v x.c (tk x) t ∧ Abx w X x ∧ X ∉ Fp rb v

theorem stb_rx (n0 rb : Nat) (v : Value) (X : Nat) (x : Ask) (t : Tst) : Stb (X :: Fp rb v) (fun w => Rx w n0 rb v X x t) := by
  have hs := stb_rf n0 rb v x.c (tk x) t
  refine ⟨fun w w' G h ht hb => ⟨hs.keep w w' G h.1 ht (fun q hq => hb q (List.mem_cons_of_mem _ hq)), (ht.block X (heap_lt h.2.1) (hb X (List.mem_cons_self ..))).trans h.2.1, h.2.2⟩, fun w h q hq => ?_⟩
  rcases List.mem_cons.1 hq with rfl | hq
  · exact heap_lt h.2.1
  · exact hs.lt w h.1 q hq

abbrev Tr : World → Prop := fun _ => True
theorem stb_tr : Stb [] Tr := ⟨fun _ _ _ _ _ _ => True.intro, fun _ _ q hq => by cases hq⟩

/-- The book between two turns. -/
abbrev Tb (W w : World) (base bb n : Nat) : Prop := Tx W w base bb n [] [] Tr Tr [none, none]

theorem Tx.free {W w : World} {base bb n : Nat} {F1 F2 : List Nat} {P1 P2 : World → Prop} {L : List (Option (Value × List Int))} (h : Tx W w base bb n F1 F2 P1 P2 L) : Tx W w base bb n [] [] Tr Tr L := by
  obtain ⟨f, xs, K, ms, ds, h1, h2⟩ := h.ex
  exact ⟨⟨f, xs, K, ms, ds, h1, h2.row, fun i v l hi g hg => ⟨(h2.fo i v l hi g hg).1, by simp⟩, h2.pw, fun k hk => by simp at hk⟩, stb_tr, stb_tr, True.intro, True.intro, (fun k hk => by cases hk), (fun q hq => by cases hq), (fun q hq => by cases hq), h.hb, h.be⟩

set_option maxHeartbeats 8000000 in
theorem told_no (x : Ask) {W w : World} {base bb n : Nat} (h : Tb W w base bb n) (mark : Int) (fx : flt x.c x.base x.kind x.words ≠ 0) :
    Calls Tryz.prog 5 #[askv x, .pointer (some ⟨bb, 0, none⟩), .int .i64 mark] w fun e w' => e = .returned (.bool true) ∧ Tb W w' base bb n := by
  obtain ⟨w0, hw0⟩ : ∃ q9, q9 = w.alloc (.cells (acells x) 26) := ⟨_, rfl⟩
  have HX1 : Hid (Abx w0 w.heap.size x) := by rw [hw0]; exact heap_alloc_new w _
  have hW0 : Below w.heap.size w w0 := by rw [hw0]; exact Below.alloc (Below.refl _ _) (Nat.le_refl _) _
  have HT1 : Hid (Tb W w0 base bb n) := h.below hW0
  have Fx : Hid (flt x.c x.base x.kind x.words ≠ 0) := fx
  clear h hW0 fx
  go_enter Tryz.func5, Tryz.ntmps5
  go_upto_region 1 with fail
  rw [← hw0]
  clear hw0
  have k0 := ask_cell HX1.out 0 (.int .i64 x.c.eden) rfl
  have k1 := ask_cell HX1.out 1 (.int .i64 x.c.surv) rfl
  have k2 := ask_cell HX1.out 2 (.int .i64 x.c.ten) rfl
  have k3 := ask_cell HX1.out 3 (.int .i64 x.c.large) rfl
  have k4 := ask_cell HX1.out 4 (.int .i64 x.c.floor) rfl
  have k5 := ask_cell HX1.out 5 (.int .i64 x.c.num) rfl
  have k6 := ask_cell HX1.out 6 (.int .i64 x.c.den) rfl
  have k7 := ask_cell HX1.out 7 (.int .i64 x.c.target) rfl
  have k8 := ask_cell HX1.out 8 (.int .i64 x.c.maxAge) rfl
  have k9 := ask_cell HX1.out 9 (.int .i64 x.c.threads) rfl
  have k10 := ask_cell HX1.out 10 (.int .i64 x.c.slots) rfl
  have k11 := ask_cell HX1.out 11 (.int .i64 x.c.handles) rfl
  have k12 := ask_cell HX1.out 12 (.int .i64 x.c.buffer) rfl
  have k13 := ask_cell HX1.out 13 (.int .i64 x.c.workers) rfl
  have k14 := ask_cell HX1.out 14 (.int .i64 x.base) rfl
  have k15 := ask_cell HX1.out 15 (.int .i64 x.kind) rfl
  have k16 := ask_cell HX1.out 16 (.int .i64 x.words) rfl
  have q := pbegin_no Fx.out w0
  go_wp2_with fail
  refine q.mono ?_
  rintro e9 w1 ⟨rfl, r4⟩
  have HX2 : Hid (Abx w1 w.heap.size x) := HX1.out.below r4 (heap_lt HX1.out)
  have HT2 : Hid (Tb W w1 base bb n) := HT1.out.below r4
  clear q r4 HX1 HT1 k0 k1 k2 k3 k4 k5 k6 k7 k8 k9 k10 k11 k12 k13 k14 k15 k16
  have k0 := ask_cell HX2.out 0 (.int .i64 x.c.eden) rfl
  have k1 := ask_cell HX2.out 1 (.int .i64 x.c.surv) rfl
  have k2 := ask_cell HX2.out 2 (.int .i64 x.c.ten) rfl
  have k3 := ask_cell HX2.out 3 (.int .i64 x.c.large) rfl
  have k4 := ask_cell HX2.out 4 (.int .i64 x.c.floor) rfl
  have k5 := ask_cell HX2.out 5 (.int .i64 x.c.num) rfl
  have k6 := ask_cell HX2.out 6 (.int .i64 x.c.den) rfl
  have k7 := ask_cell HX2.out 7 (.int .i64 x.c.target) rfl
  have k8 := ask_cell HX2.out 8 (.int .i64 x.c.maxAge) rfl
  have k9 := ask_cell HX2.out 9 (.int .i64 x.c.threads) rfl
  have k10 := ask_cell HX2.out 10 (.int .i64 x.c.slots) rfl
  have k11 := ask_cell HX2.out 11 (.int .i64 x.c.handles) rfl
  have k12 := ask_cell HX2.out 12 (.int .i64 x.c.buffer) rfl
  have k13 := ask_cell HX2.out 13 (.int .i64 x.c.workers) rfl
  have k14 := ask_cell HX2.out 14 (.int .i64 x.base) rfl
  have k15 := ask_cell HX2.out 15 (.int .i64 x.kind) rfl
  have k16 := ask_cell HX2.out 16 (.int .i64 x.words) rfl
  have q := rbegin_no Fx.out w1
  go_wp2_with fail
  refine q.mono ?_
  rintro e9 w2 ⟨rfl, r4⟩
  have HX3 : Hid (Abx w2 w.heap.size x) := HX2.out.below r4 (heap_lt HX2.out)
  have HT3 : Hid (Tb W w2 base bb n) := HT2.out.below r4
  clear q r4 HX2 HT2 k0 k1 k2 k3 k4 k5 k6 k7 k8 k9 k10 k11 k12 k13 k14 k15 k16
  generalize flt x.c x.base x.kind x.words = N at Fx ⊢
  have nx : (N != N) = false := by simp
  go_upto_region 6 with fail
  clear nx
  go_loopw [11] (fun i wr => i = .int .i64 0 ∧ wr = w2) (fun _ _ => 0)
  case atStart => exact ⟨rfl, rfl⟩
  case round =>
    obtain ⟨rfl, rfl⟩ := hrel
    go_wp2
    go_returns
    exact ⟨rfl, HT3.out⟩

theorem Tb.begin {W w w2 : World} {base bb n : Nat} {F1 F2 : List Nat} {P1 P2 : World → Prop} (h : Tb W w base bb n) (hb : Below w.heap.size w w2) (s1 : Stb F1 P1) (s2 : Stb F2 P2) (p1 : P1 w2) (p2 : P2 w2) (a12 : Apart F1 F2) (l1 : ∀ q, q ∈ F1 → w.heap.size ≤ q) (l2 : ∀ q, q ∈ F2 → w.heap.size ≤ q) : Tx W w2 base bb n F1 F2 P1 P2 [none, none] := by
  obtain ⟨f, xs, K, ms, ds, h1, h2⟩ := h.ex
  refine ⟨⟨f, xs, K, ms, ds, bok_touch h1 (Kg.Touch.of_below hb []) (fun k hk => by cases hk), h2.more h1.iv (Kg.Touch.of_below hb _) (fun k hk => .inr ?_) (fun k hk => ?_)⟩, s1, s2, p1, p2, a12, fun q hq => Nat.le_trans h.hb (l1 q hq), fun q hq => Nat.le_trans h.hb (l2 q hq), Nat.le_trans h.hb hb.size, h.be.trans (hb.mono h.hb)⟩
  · rcases List.mem_append.1 hk with hk | hk
    · exact l1 k hk
    · exact l2 k hk
  · rcases List.mem_append.1 hk with hk | hk
    · exact s1.lt _ p1 k hk
    · exact s2.lt _ p2 k hk

theorem Pt.base {w : World} {base base' b : Nat} {v : Value} {g : Nat} {k : Task} {t : Tst} (h : Pt w base b v g k t) (hl : base' ≤ base) : Pt w base' b v g k t :=
  ⟨h.at_, row_base h.row hl, h.box, h.gv, h.gl, Nat.le_trans hl h.lo, h.le⟩

theorem Rf.base {w : World} {base base' b : Nat} {v : Value} {c : Cfg} {k : Task} {t : Tst} (h : Rf w base b v c k t) (hl : base' ≤ base) : Rf w base' b v c k t :=
  ⟨h.at_, row_base h.row hl, Nat.le_trans hl h.lo, h.le⟩

set_option maxHeartbeats 16000000 in
theorem told_yes (x : Ask) {W w : World} {base bb n : Nat} (h : Tb W w base bb n) (hx : AskIn W x) (hbs : W.heap.size ≤ base) (mark : Nat) (hm : mark ≤ 1000000) (fx : flt x.c x.base x.kind x.words = 0) (hn : n + 2 * x.L.length ≤ 300000000) :
    Calls Tryz.prog 5 #[askv x, .pointer (some ⟨bb, 0, none⟩), .int .i64 mark] w fun e w' => e = .returned (.bool true) ∧ Tb W w' base bb (n + 2 * x.L.length) := by
  obtain ⟨w0, hw0⟩ : ∃ q9, q9 = w.alloc (.cells (acells x) 26) := ⟨_, rfl⟩
  have HX1 : Hid (Abx w0 w.heap.size x) := by rw [hw0]; exact heap_alloc_new w _
  have hW0 : Below w.heap.size w w0 := by rw [hw0]; exact Below.alloc (Below.refl _ _) (Nat.le_refl _) _
  have HW0 : Hid (Below w.heap.size w w0) := hW0
  have Hs0 : Hid (w0.heap.size = w.heap.size + 1) := (by rw [hw0]; simp : w0.heap.size = w.heap.size + 1)
  have HT0 : Hid (Tb W w base bb n) := h
  have Fx : Hid (flt x.c x.base x.kind x.words = 0) := fx
  have HIx : Hid (AskIn W x) := hx
  have Hbs : Hid (W.heap.size ≤ base ∧ base ≤ w.heap.size) := ⟨hbs, h.hb⟩
  have HK : Hid (Tof (tk x) ∧ Tok x.c (tk x)) := ⟨tof_mk fx hx.ws, tok_mk fx hx.ws⟩
  clear h hW0 fx hx hbs
  go_enter Tryz.func5, Tryz.ntmps5
  go_upto_region 1 with fail
  rw [← hw0]
  clear hw0
  have k0 := ask_cell HX1.out 0 (.int .i64 x.c.eden) rfl
  have k1 := ask_cell HX1.out 1 (.int .i64 x.c.surv) rfl
  have k2 := ask_cell HX1.out 2 (.int .i64 x.c.ten) rfl
  have k3 := ask_cell HX1.out 3 (.int .i64 x.c.large) rfl
  have k4 := ask_cell HX1.out 4 (.int .i64 x.c.floor) rfl
  have k5 := ask_cell HX1.out 5 (.int .i64 x.c.num) rfl
  have k6 := ask_cell HX1.out 6 (.int .i64 x.c.den) rfl
  have k7 := ask_cell HX1.out 7 (.int .i64 x.c.target) rfl
  have k8 := ask_cell HX1.out 8 (.int .i64 x.c.maxAge) rfl
  have k9 := ask_cell HX1.out 9 (.int .i64 x.c.threads) rfl
  have k10 := ask_cell HX1.out 10 (.int .i64 x.c.slots) rfl
  have k11 := ask_cell HX1.out 11 (.int .i64 x.c.handles) rfl
  have k12 := ask_cell HX1.out 12 (.int .i64 x.c.buffer) rfl
  have k13 := ask_cell HX1.out 13 (.int .i64 x.c.workers) rfl
  have k14 := ask_cell HX1.out 14 (.int .i64 x.base) rfl
  have k15 := ask_cell HX1.out 15 (.int .i64 x.kind) rfl
  have k16 := ask_cell HX1.out 16 (.int .i64 x.words) rfl
  have q := pbegin_yes Fx.out w0
  go_wp2_with fail
  refine q.mono ?_
  rintro e9 w1 ⟨b, g, rfl, r1, r2, r3, r4⟩
  have HX2 : Hid (Abx w1 w.heap.size x) := HX1.out.below r4 (heap_lt HX1.out)
  have HB1 : Hid (Below w.heap.size w w1) := HW0.out.trans (r4.mono HW0.out.size)
  have HP1 : Hid (Pt w1 base b (.slice none 0 0) g (tk x) t00 ∧ w0.heap.size ≤ b ∧ w0.heap.size ≤ g) := ⟨Pt.base r3 (by have := Hbs.out; have := HW0.out.size; omega), r1, r2⟩
  clear q r1 r2 r3 r4 HX1 k0 k1 k2 k3 k4 k5 k6 k7 k8 k9 k10 k11 k12 k13 k14 k15 k16
  have k0 := ask_cell HX2.out 0 (.int .i64 x.c.eden) rfl
  have k1 := ask_cell HX2.out 1 (.int .i64 x.c.surv) rfl
  have k2 := ask_cell HX2.out 2 (.int .i64 x.c.ten) rfl
  have k3 := ask_cell HX2.out 3 (.int .i64 x.c.large) rfl
  have k4 := ask_cell HX2.out 4 (.int .i64 x.c.floor) rfl
  have k5 := ask_cell HX2.out 5 (.int .i64 x.c.num) rfl
  have k6 := ask_cell HX2.out 6 (.int .i64 x.c.den) rfl
  have k7 := ask_cell HX2.out 7 (.int .i64 x.c.target) rfl
  have k8 := ask_cell HX2.out 8 (.int .i64 x.c.maxAge) rfl
  have k9 := ask_cell HX2.out 9 (.int .i64 x.c.threads) rfl
  have k10 := ask_cell HX2.out 10 (.int .i64 x.c.slots) rfl
  have k11 := ask_cell HX2.out 11 (.int .i64 x.c.handles) rfl
  have k12 := ask_cell HX2.out 12 (.int .i64 x.c.buffer) rfl
  have k13 := ask_cell HX2.out 13 (.int .i64 x.c.workers) rfl
  have k14 := ask_cell HX2.out 14 (.int .i64 x.base) rfl
  have k15 := ask_cell HX2.out 15 (.int .i64 x.kind) rfl
  have k16 := ask_cell HX2.out 16 (.int .i64 x.words) rfl
  have q := rbegin_yes Fx.out w1
  go_wp2_with fail
  refine q.mono ?_
  rintro e9 w2 ⟨rb, rfl, r1, r3, r4⟩
  have HXx : Hid (Abx w2 w.heap.size x) := HX2.out.below r4 (heap_lt HX2.out)
  have HB2 : Hid (Below w.heap.size w w2) := HB1.out.trans (r4.mono HB1.out.size)
  have HT2 : Hid (Tx W w2 base bb n (Fq b (.slice none 0 0) g) (w.heap.size :: Fp rb (.slice none 0 0)) (fun w' => Pt w' base b (.slice none 0 0) g (tk x) t00) (fun w' => Rx w' base rb (.slice none 0 0) w.heap.size x t00) [none, none]) := by
    obtain ⟨p1, p2, p3⟩ := HP1.out
    have z0 := Hs0.out
    have z1 := p1.gl
    have z2 := p1.lt
    have z3 := HB1.out.size
    have hrf : Rf w2 base rb (.slice none 0 0) x.c (tk x) t00 := Rf.base r3 (by have := Hbs.out; omega)
    refine Tb.begin HT0.out HB2.out (stb_pt _ _ _ _ _ _) (stb_rx _ _ _ _ _ _) (p1.below r4) ⟨hrf, HXx.out, ?_⟩ ?_ ?_ ?_
    · simp only [Fp, Value.ownBlock, Option.toList, List.mem_cons, List.not_mem_nil, or_false]; omega
    · intro q hq
      simp only [Fq, Fp, Value.ownBlock, Option.toList, List.mem_cons, List.not_mem_nil, or_false] at hq ⊢
      omega
    · intro q hq
      simp only [Fq, Value.ownBlock, Option.toList, List.mem_cons, List.not_mem_nil, or_false] at hq
      omega
    · intro q hq
      simp only [Fp, Value.ownBlock, Option.toList, List.mem_cons, List.not_mem_nil, or_false] at hq
      omega
  clear q r1 r3 r4 HX2 HXx HP1 HB1 HB2 HT0 k0 k1 k2 k3 k4 k5 k6 k7 k8 k9 k10 k11 k12 k13 k14 k15 k16
  have Hgo : Hid (Go12 (tk x) t00) := Go12.start (flt_ok Fx.out).2.1
  have hln : x.L.length ≤ 300000000 := by omega
  generalize w.heap.size = X at HT2 ⊢
  go_upto_region 6 with fail
  go_loopw [11] (fun i wr => ∃ (m : Nat) (t : Tst) (u v : Value), i = .int .i64 m ∧ m ≤ x.L.length ∧ Hid (Go12 (tk x) t) ∧ Hid (Tx W wr base bb (n + 2 * m) (Fq b u g) (X :: Fp rb v) (fun w' => Pt w' base b u g (tk x) t) (fun w' => Rx w' base rb v X x t) [none, none])) (fun i _ => x.L.length - (intOf i).toNat)
  case atStart => exact ⟨0, t00, _, _, rfl, by omega, Hgo, HT2⟩
  case round =>
    obtain ⟨m, t, u, v, rfl, hml, Hg, HT⟩ := hrel
    clear HT2 Hgo
    have kX := ask_cell HT.out.p2.2.1 17 (.slice x.va x.L.length x.vc) rfl
    by_cases hl : m < x.L.length
    · have hlI : (m : Int) < x.L.length := by omega
      obtain ⟨f, hf⟩ : ∃ f, x.L[m]? = some f := ⟨_, List.getElem?_eq_getElem hl⟩
      obtain ⟨gx, ox, ex, hgx, v0, v1, v2, v3⟩ := (HIx.out.vs.below (HT.out.be.mono Hbs.out.1)) m f hf
      rw [ex] at kX
      have hxl : X < wr.heap.size := heap_lt HT.out.p2.2.1
      clear hf hgx
      go_upto_region 9 with fail
      have hb0 : Below wr.heap.size wr (wr.alloc (vbox f)) := Below.alloc (Below.refl _ _) (Nat.le_refl _) _
      have HT1 : Hid (Tx W (wr.alloc (vbox f)) base bb (n + 2 * m) (Fq b u g) (X :: Fp rb v) (fun w' => Pt w' base b u g (tk x) t) (fun w' => Rx w' base rb v X x t) [none, none]) := HT.out.below hb0
      have HV1 : Hid ((wr.alloc (vbox f)).heap[wr.heap.size]? = some (.cells #[.int .i64 f.er, .int .i64 f.yo, .int .i64 f.te, .int .i64 f.tr] 54 (0, 0))) := heap_alloc_new wr _
      have HVn : Hid (wr.heap.size ∉ Fq b u g ∧ wr.heap.size ∉ X :: Fp rb v) := ⟨fun hm => by have := HT.out.s1.lt _ HT.out.p1 _ hm; omega, fun hm => by have := HT.out.s2.lt _ HT.out.p2 _ hm; omega⟩
      clear hb0 HT kX v0 v1 v2 v3 ex hxl
      generalize (wr.alloc (vbox f)) = W1 at HT1 HV1 ⊢
      generalize wr.heap.size = V at HV1 HVn ⊢
      obtain ⟨S, hS⟩ : ∃ S, ((tk x).next t f).1 = S := ⟨_, rfl⟩
      have q := pnext_any HT1.out.p1 (by have := Hg.out.len; omega) HK.out.1 Hg.out.oc f
      rw [hS] at q
      have g0 : W1.cell? ⟨V, 0, none⟩ = some (.int .i64 f.er) := heap_cell HV1.out 0
      have g1 : W1.cell? ⟨V, 1, none⟩ = some (.int .i64 f.yo) := heap_cell HV1.out 1
      have g2 : W1.cell? ⟨V, 2, none⟩ = some (.int .i64 f.te) := heap_cell HV1.out 2
      have g3 : W1.cell? ⟨V, 3, none⟩ = some (.int .i64 f.tr) := heap_cell HV1.out 3
      have HS : Hid (((tk x).next t f).1 = S) := hS
      clear hS
      go_wp2_with fail
      refine q.mono ?_
      rintro e9 w5 ⟨rfl, hG⟩
      obtain ⟨u', r1, r2, r3⟩ := hG.ex
      have HT5 : Hid (Tx W w5 base bb (n + 2 * m) (Fq b u' g) (X :: Fp rb v) (fun w' => Pt w' base b u' g (tk x) ((tk x).next t f).2) (fun w' => Rx w' base rb v X x t) [none, none]) := HT1.out.step (stb_pt _ _ _ _ _ _) r1 r2 r3
      have HV5 : Hid (w5.heap[V]? = some (.cells #[.int .i64 f.er, .int .i64 f.yo, .int .i64 f.te, .int .i64 f.tr] 54 (0, 0))) := (r2.block V (heap_lt HV1.out) HVn.out.1).trans HV1.out
      clear q hG r1 r2 r3 g0 g1 g2 g3 HT1 HV1
      obtain ⟨B0, hB0⟩ : ∃ B0 : Int, (if 3 ∈ ((tk x).next t f).2.ran then clp f.te else (tk x).first) = B0 := ⟨_, rfl⟩
      have HBs : Hid ((if 3 ∈ ((tk x).next t f).2.ran then clp f.te else (tk x).first) = B0) := hB0
      clear hB0
      have HTd : Hid (Tx W w5.drew base bb (n + 2 * m) (Fq b u' g) (X :: Fp rb v) (fun w' => Pt w' base b u' g (tk x) ((tk x).next t f).2) (fun w' => Rx w' base rb v X x t) [none, none]) := HT5.out.below ((Kg.Touch.drew [] w5).below (Nat.le_refl _) (fun k hk => by cases hk))
      have HVd : Hid (w5.drew.heap[V]? = some (.cells #[.int .i64 f.er, .int .i64 f.yo, .int .i64 f.te, .int .i64 f.tr] 54 (0, 0))) := HV5.out
      have hc := next_any HTd.out.p2.1 (by have := Hg.out.len; omega) HK.out.2 f
      rw [HS.out] at hc
      have y0 : w5.cell? ⟨V, 0, none⟩ = some (.int .i64 f.er) := heap_cell HV5.out 0
      have y1 : w5.cell? ⟨V, 1, none⟩ = some (.int .i64 f.yo) := heap_cell HV5.out 1
      have y2 : w5.cell? ⟨V, 2, none⟩ = some (.int .i64 f.te) := heap_cell HV5.out 2
      have y3 : w5.cell? ⟨V, 3, none⟩ = some (.int .i64 f.tr) := heap_cell HV5.out 3
      have nS : (S != S) = false := by simp
      have nB : (B0 != B0) = false := by simp
      have HS6 : Hid (∀ w6, Gos w5.drew w6 base rb v x.c (tk x) ((tk x).next t f).2 → ∃ v', Tx W w6 base bb (n + 2 * m) (Fq b u' g) (X :: Fp rb v') (fun w' => Pt w' base b u' g (tk x) ((tk x).next t f).2) (fun w' => Rx w' base rb v' X x ((tk x).next t f).2) [none, none] ∧ w6.heap[V]? = some (.cells #[.int .i64 f.er, .int .i64 f.yo, .int .i64 f.te, .int .i64 f.tr] 54 (0, 0))) := fun w6 hG => by
        obtain ⟨v', r1, r2, r3⟩ := hG.ex
        have hX := HTd.out.p2.2
        have hXl := heap_lt hX.1
        have r2' : Kg.Touch (X :: Fp rb v) w5.drew w6 := ⟨r2.os, r2.tape, r2.output, r2.size, fun k hk hm => r2.block k hk (fun h9 => hm (List.mem_cons_of_mem _ h9))⟩
        have hn' : Newer w5.drew.heap.size (X :: Fp rb v) (X :: Fp rb v') := fun q hq => by
          rcases List.mem_cons.1 hq with h9 | h9
          · exact .inl (by rw [h9]; exact List.mem_cons_self ..)
          · exact (r3 q h9).imp (fun h8 => List.mem_cons_of_mem _ h8) id
        refine ⟨v', (HTd.out.swap.step (stb_rx _ _ _ _ _ _) ⟨r1, (r2.block X hXl hX.2).trans hX.1, fun hm => ?_⟩ r2' hn').swap, (r2'.block V (heap_lt HVd.out) HVn.out.2).trans HVd.out⟩
        rcases r3 X hm with h9 | h9
        · exact hX.2 h9
        · omega
      have HBp : Hid (∀ w6 v', Tx W w6 base bb (n + 2 * m) (Fq b u' g) (X :: Fp rb v') (fun w' => Pt w' base b u' g (tk x) ((tk x).next t f).2) (fun w' => Rx w' base rb v' X x ((tk x).next t f).2) [none, none] → Calls Tryz.prog 13 #[.pointer (some ⟨b, 0, none⟩), vv f] w6 fun e w' => e = .returned (.int .i64 B0) ∧ Below w6.heap.size w6 w') := fun w6 v' h => by rw [← HBs.out]; exact pbase_any h.p1 f
      have HBr : Hid (∀ w6 v', Tx W w6 base bb (n + 2 * m) (Fq b u' g) (X :: Fp rb v') (fun w' => Pt w' base b u' g (tk x) ((tk x).next t f).2) (fun w' => Rx w' base rb v' X x ((tk x).next t f).2) [none, none] → Calls Tryz.prog 14 #[.pointer (some ⟨rb, 0, none⟩), vv f] w6 fun e w' => e = .returned (.int .i64 B0) ∧ Below w6.heap.size w6 w') := fun w6 v' h => by rw [← HBs.out]; exact rbase_any h.p2.1 f
      clear HT5 HV5
      go_upto_region 10 with fail
      go_region_held3 (fun w' => w'.cell? ⟨V, 0, none⟩ = some (.int .i64 f.er) ∧ w'.cell? ⟨V, 1, none⟩ = some (.int .i64 f.yo) ∧ w'.cell? ⟨V, 2, none⟩ = some (.int .i64 f.te) ∧ w'.cell? ⟨V, 3, none⟩ = some (.int .i64 f.tr)) (first | go_keep | (exact And.intro ‹_› (And.intro ‹_› (And.intro ‹_› ‹_›)))) (first | (go_at_call 12; refine hc.mono ?_; rintro e9 w6 ⟨rfl, hG⟩; obtain ⟨v', h6, hV6⟩ := HS6.out w6 hG; have HT6 := h6; have HV6 := hV6; have z0 := heap_cell hV6 0; have z1 := heap_cell hV6 1; have z2 := heap_cell hV6 2; have z3 := heap_cell hV6 3; simp only [List.getElem?_toArray, List.getElem?_cons_zero, List.getElem?_cons_succ] at z0 z1 z2 z3; have hc7 := HBp.out w6 v' h6; clear hc hG) | (go_at_call 13; refine hc7.mono ?_; rintro e9 w7 ⟨rfl, b7⟩; have HT7 := HT6.below b7; have HV7 := (b7.block V (heap_lt HV6)).trans HV6; have t0 := heap_cell HV7 0; have t1 := heap_cell HV7 1; have t2 := heap_cell HV7 2; have t3 := heap_cell HV7 3; simp only [List.getElem?_toArray, List.getElem?_cons_zero, List.getElem?_cons_succ] at t0 t1 t2 t3; have hc8 := HBr.out w7 v' HT7; clear hc7) | (go_at_call 14; refine hc8.mono ?_; rintro e9 w8 ⟨rfl, b8⟩; have HT8 := HT7.below b8; have HV8 := (b8.block V (heap_lt HV7)).trans HV7; have s0 := heap_cell HV8 0; have s1 := heap_cell HV8 1; have s2 := heap_cell HV8 2; have s3 := heap_cell HV8 3; simp only [List.getElem?_toArray, List.getElem?_cons_zero, List.getElem?_cons_succ] at s0 s1 s2 s3; clear hc8))
      have HTa : Hid (Tx W w8 base bb (n + 2 * m) (Fq b u' g) (X :: Fp rb v') (fun w' => Pt w' base b u' g (tk x) ((tk x).next t f).2) (fun w' => Rx w' base rb v' X x ((tk x).next t f).2) [none, none]) := HT8
      have HGo : Hid (Go12 (tk x) ((tk x).next t f).2) := Hg.out.next f
      clear HT6 HT7 HT8 HV6 HV7 HV8 h6 hV6 z0 z1 z2 z3 t0 t1 t2 t3 s0 s1 s2 s3 b7 b8 HTd HVd y0 y1 y2 y3 nS nB HS6 HBp HBr HBs HS Hg HVn
      generalize ((tk x).next t f).2 = t' at HTa HGo
      go_upto_region 13 with fail
      go_loopw [14] (fun i wr => ∃ (k : Nat), i = .int .i64 k ∧ k ≤ 2 ∧ Hid (Tx W wr base bb (n + 2 * m + k) (Fq b u' g) (X :: Fp rb v') (fun w' => Pt w' base b u' g (tk x) t') (fun w' => Rx w' base rb v' X x t') [none, none])) (fun i _ => 2 - (intOf i).toNat)
      case atStart => exact ⟨0, rfl, by omega, HTa⟩
      case round =>
        obtain ⟨k, rfl, hk, HTk⟩ := hrel
        clear HTa
        have hrl : t'.ran.length ≤ 3 := HGo.out.len
        by_cases hk2 : k < 2
        · have hki : (k : Int) < 2 := by omega
          have q := pcycles_any HTk.out.p1
          go_wp2_with fail
          refine q.mono ?_
          rintro e9 wa ⟨l1, rfl, o1, b1⟩
          have HTl : Hid (Tx W wa base bb (n + 2 * m + k) (Fq b u' g) (X :: Fp rb v') (fun w' => Pt w' base b u' g (tk x) t') (fun w' => Rx w' base rb v' X x t') [some (l1, t'.ran), none]) := HTk.out.newB b1 o1 0
          clear q o1 b1 HTk
          have q := rcycles_any HTl.out.p2.1
          go_wp2_with fail
          refine q.mono ?_
          rintro e9 wb ⟨l2, rfl, o2, b2⟩
          have HTm : Hid (Tx W wb base bb (n + 2 * m + k) (Fq b u' g) (X :: Fp rb v') (fun w' => Pt w' base b u' g (tk x) t') (fun w' => Rx w' base rb v' X x t') [some (l1, t'.ran), some (l2, t'.ran)]) := HTl.out.newB b2 o2 1
          clear q o2 b2 HTl
          have q := same_yes (HTm.out.row (i := 0) rfl) (HTm.out.row (i := 1) rfl) rfl rfl (by omega)
          go_wp2_with fail
          refine q.mono ?_
          rintro e9 wd ⟨rfl, b3⟩
          have HTn : Hid (Tx W wd base bb (n + 2 * m + k) (Fq b u' g) (X :: Fp rb v') (fun w' => Pt w' base b u' g (tk x) t') (fun w' => Rx w' base rb v' X x t') [some (l1, t'.ran), some (l2, t'.ran)]) := HTm.out.below b3
          clear q b3 HTm
          have q := HTn.out.hold (by omega)
          go_wp2_with fail
          refine q.mono ?_
          rintro e9 wf ⟨rfl, h4⟩
          have HTo : Hid (Tx W wf base bb (n + 2 * m + k) (Fq b u' g) (X :: Fp rb v') (fun w' => Pt w' base b u' g (tk x) t') (fun w' => Rx w' base rb v' X x t') [some (l1, t'.ran), some (l2, t'.ran)]) := h4
          clear q h4 HTn
          have q := HTo.out.ints (by omega) (i := 0) rfl (by omega) ((mark : Int) + 100 * m + 40 * k) (by omega) (by omega)
          go_wp2_with fail
          refine q.mono ?_
          rintro e9 wg ⟨rfl, h5⟩
          have HTp : Hid (Tx W wg base bb (n + 2 * m + (k + 1)) (Fq b u' g) (X :: Fp rb v') (fun w' => Pt w' base b u' g (tk x) t') (fun w' => Rx w' base rb v' X x t') [none, none]) := h5.drop 1
          clear q h5 HTo
          go_wp2
          go_roundw
          case rel => exact ⟨k + 1, by go_num, by omega, HTp⟩
          case measure => simp [intOf]; omega
        · have hki : ¬ (k : Int) < 2 := by omega
          obtain rfl : k = 2 := by omega
          have HTq : Hid (Tx W wr base bb (n + 2 * (m + 1)) (Fq b u' g) (X :: Fp rb v') (fun w' => Pt w' base b u' g (tk x) t') (fun w' => Rx w' base rb v' X x t') [none, none]) := HTk.out
          clear HTk
          have q := HTq.out.hold (by omega)
          go_wp2_with fail
          refine q.mono ?_
          rintro e9 wf ⟨rfl, h4⟩
          have HTr : Hid (Tx W wf base bb (n + 2 * (m + 1)) (Fq b u' g) (X :: Fp rb v') (fun w' => Pt w' base b u' g (tk x) t') (fun w' => Rx w' base rb v' X x t') [none, none]) := h4
          clear q h4 HTq
          go_wp2
          go_roundw
          case rel => exact ⟨m + 1, t', u', v', by go_num, by omega, HGo, HTr⟩
          case measure => simp [intOf]; omega
    · have hlI : ¬ (m : Int) < x.L.length := by omega
      obtain rfl : m = x.L.length := by omega
      have HTz : Hid (Tb W wr base bb (n + 2 * x.L.length)) := HT.out.free
      go_wp2
      go_returns
      exact ⟨rfl, HTz.out⟩

end Go.Proofs.YtcijdbhabbepaaaGreatDoor.Po
