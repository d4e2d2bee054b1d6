/-
  buffer.Put. (mkBF3.py prints this text.)
-/
import Derived.Test.YtpiemfchjlihfaaGreatDoorBF2
import Derived.Recover
set_option linter.unusedVariables false
set_option maxRecDepth 20000
namespace Go.Proofs.YtpiemfchjlihfaaGreatDoor
open Go.RowKit

/-- A filler is written, if there is a word for it. -/
def fil13 (ws : Nat → Int) (q n : Int) : Nat → Int := if 0 < n then upd ws q.toNat (tg 3 n) else ws

/-- A thread's rest lies below eden's top. -/
structure Rst (x : Tps) (B : Bfs) (t : Nat) : Prop where
  n0 : 0 ≤ B.ws t
  z : B.ws t = 0 → B.at_ t = 0
  q0 : 0 < B.ws t → 1 ≤ B.at_ t
  q1 : 0 < B.ws t → B.at_ t + B.ws t ≤ x.t1

theorem bfill_any {w : World} {b ab ag : Nat} {B : Bfs} {c : Cfg} {x : Tps} {sw : Bool} {ws : Nat → Int} (h : Bf w b B) (t : Nat) (ht : t < 8) (hR : Rst x B t) (hA : Ar w ab ag c x sw ws) (u : FrameMode) :
    CallsD Tryz.prog 50 #[.pointer (some ⟨b, 2 + t * 2, none⟩), .pointer (some ⟨ab, 0, none⟩)] u w fun e u' w' => u' = u ∧ (e = .returned (.tuple #[]) ∧ Ar w' ab ag c x sw (fil13 ws (B.at_ t) (B.ws t)) ∧ Touch [ag] w w') := by
  unfold fil13
  have wo := hA.words
  have e1 := hA.ok.e1
  have t1 := hA.t11
  have s0 := hA.ok.s0
  have t0 := hA.ok.t0
  have hwd : c.words = 1 + c.eden + c.surv + c.surv + c.ten := rfl
  by_cases hz : 0 < B.ws t
  · rw [if_pos hz]
    have q0 := hR.q0 hz
    have q1 := hR.q1 hz
    refine (bfill_yes h t ht hz (by omega) hA (B.at_ t).toNat (by omega) (by omega) (by omega) u).mono ?_
    rintro e u' w' ⟨rfl, rfl, a1, a2, -⟩
    exact ⟨rfl, rfl, a1, a2⟩
  · rw [if_neg hz]
    refine (bfill_no h t ht hz _ u).mono ?_
    rintro e u' w' ⟨rfl, rfl, rfl⟩
    exact ⟨rfl, rfl, hA, Touch.refl _ _⟩

set_option maxHeartbeats 4000000 in
/-- The object goes into the rest. -/
theorem bput_rest {w : World} {b ab ag : Nat} {B : Bfs} {c : Cfg} {x : Tps} {sw : Bool} {ws : Nat → Int} (hB : Bf w b B) (hA : Ar w ab ag c x sw ws) (hL : Laid w) (hne : b ≠ ab ∧ b ≠ ag) (hgl : 1 ∉ [b, ab, ag] ∧ 0 ∉ [b, ab, ag]) (t : Nat) (ht : (t : Int) < B.n) (hR : Rst x B t) (s k p r a y : Int) (h : Bool) (hs : Wd s) (hf : flt k p r a y = 0) (n : Nat) (hn : (n : Int) = 2 + p + r) (hc : (n : Int) ≤ B.ws t) (q : Nat) (hq : B.at_ t = q) :
    Calls Tryz.prog 15 #[.pointer (some ⟨b, 0, none⟩), .pointer (some ⟨ab, 0, none⟩), .int .i64 t, hv s k p r a y h] w fun e w' => e = .returned (.tuple #[.int .i64 q, .bool true]) ∧ Ar w' ab ag c x sw (fil13 (putw ws q n (wrd k p r a y h) s) ((B.drop t n).at_ t) ((B.drop t n).ws t)) ∧ Bf w' b (B.drop t n) ∧ Touch [b, ab, ag] w w' := by
  have b0 : Below w.heap.size w (w.alloc (.cells (hcells s k p r a y h) 46)) := Below.alloc (Below.refl _ _) (Nat.le_refl _) _
  have hp := pack_any s k p r a y h _ (hL.keep b0)
  have x0 := Box.new w 46 (.int .u64 s) (.int .i64 k) (.int .i64 p) (.int .i64 r) (.int .i64 a) (.int .i64 y) (.bool h)
  have m := May.of hf
  rw [hf, pck_ok hf] at hp
  have hwd := wrd_wd (h := h) m
  have hsz : siz (wrd k p r a y h) = n := by
    obtain ⟨-, e1, e2, -⟩ := parts_wrd (h := h) m
    unfold siz
    rw [if_pos (head_wrd m), e1, e2, hn]
  have hn2 : 2 ≤ n := by have := m.p0; have := m.r0; omega
  have hn3 : n ≤ 70000 := by have := m.p1; have := m.r1; omega
  have ht8 : t < 8 := by have := hB.n1; omega
  have wo := hA.words
  have HWd : Hid (Wd (wrd k p r a y h)) := hwd
  have HWs : Hid (Wd s) := hs
  have HSz : Hid (siz (wrd k p r a y h) = n) := hsz
  have HA : Hid (Ar w ab ag c x sw ws) := hA
  have HBf : Hid (Bf w b B) := hB
  have HL : Hid (Laid w) := hL
  have Hgl : Hid (1 ∉ [b, ab, ag] ∧ 0 ∉ [b, ab, ag]) := hgl
  have Hne : Hid (b ≠ ab ∧ b ≠ ag ∧ ab ≠ ag) := ⟨hne.1, hne.2, hA.ne⟩
  have HR : Hid (Rst x B t) := hR
  have Hlt : Hid (b < w.heap.size ∧ ab < w.heap.size ∧ ag < w.heap.size) := ⟨hB.own.lt, hA.own.lt, hA.row.lt⟩
  have htn : (t : Int) < B.n := ht
  generalize wrd k p r a y h = wd at hp HWd HSz ⊢
  have HN : Hid ((n : Int) = 2 + p + r) := hn
  clear hwd hsz hs hf m hA hB hL hne hgl hR ht hn
  go_enter_defers Tryz.func15, Tryz.ntmps15
  go_wp2_with fail
  refine hp.mono ?_
  rintro e9 w1 ⟨rfl, b1⟩
  have b2 := b0.trans (b1.mono b0.size)
  have HX1 : Hid (Box w1 w.heap.size (.int .u64 s) (.int .i64 k) (.int .i64 p) (.int .i64 r) (.int .i64 a) (.int .i64 y) (.bool h)) := x0.keep b1 x0.lt
  have HB2 : Hid (Below w.heap.size w w1) := b2
  clear b0 b1 b2 hp x0
  have qh := bhas_any (HBf.out.below HB2.out) t
  rw [decide_eq_true (⟨by omega, htn⟩ : 0 ≤ (t : Int) ∧ (t : Int) < B.n)] at qh
  go_wp2_with fail
  refine qh.mono ?_
  rintro e9 w9 ⟨rfl, rfl⟩
  clear qh
  have qs := size_any wd HWd.out w1 (HL.out.keep HB2.out)
  rw [HSz.out] at qs
  go_wp2_with fail
  refine qs.mono ?_
  rintro e9 w2 ⟨rfl, b3⟩
  have HB3 : Hid (Below w.heap.size w w2) := HB2.out.trans (b3.mono HB2.out.size)
  have HX2 : Hid (Box w2 w.heap.size (.int .u64 s) (.int .i64 k) (.int .i64 p) (.int .i64 r) (.int .i64 a) (.int .i64 y) (.bool h)) := HX1.out.keep b3 HX1.out.lt
  clear qs b3 HB2 HX1
  have qf := free_any ab ag c x sw ws 1 w2 (HA.out.below HB3.out)
  have efr : bhd c 1 - x.top 1 = 1 + c.eden - x.t1 := rfl
  rw [efr] at qf
  clear efr
  go_wp2_with fail
  refine qf.mono ?_
  rintro e9 w3 ⟨rfl, b4⟩
  have HB4 : Hid (Below w.heap.size w w3) := HB3.out.trans (b4.mono HB3.out.size)
  have HX3 : Hid (Box w3 w.heap.size (.int .u64 s) (.int .i64 k) (.int .i64 p) (.int .i64 r) (.int .i64 a) (.int .i64 y) (.bool h)) := HX2.out.keep b4 HX2.out.lt
  clear qf b4 HB3 HX2
  have HBf3 : Hid (Bf w3 b B) := HBf.out.below HB4.out
  have HA3 : Hid (Ar w3 ab ag c x sw ws) := HA.out.below HB4.out
  have kw := HBf3.out.cell (2 + t * 2 + 1) (by omega) _ (bf_ws B t)
  have ks := HBf3.out.cell 1 (by omega) (.int .i64 B.size) rfl
  have hsv := HX3.out.h0
  have hc' : decide ((n : Int) ≤ B.ws t) = true := decide_eq_true hc
  have Hq : Hid (B.at_ t = q) := hq
  have HC : Hid ((n : Int) ≤ B.ws t) := hc
  generalize B.ws t = W at kw hc hc'
  clear hq hc
  go_wp2_with fail
  refine (bobject_any wd s HWd.out HWs.out n HSz.out hn2 hn3 w3 (HL.out.keep HB4.out)).mono ?_
  rintro e9 w4 ⟨og, rfl, a1, a2, a3⟩
  have HB5 : Hid (Below w.heap.size w w4) := HB4.out.trans (a2.mono HB4.out.size)
  have ql := blay_any HWd.out HWs.out (HBf3.out.below a2) t ht8 (HA3.out.below a2) n hn2 a1 q Hq.out
    (by have := HR.out.q0 (by have := HC.out; omega); have := Hq.out; omega)
    (by have := HR.out.q1 (by have := HC.out; omega); have := Hq.out; have := HC.out; have := HA.out.t11; have := HA.out.ok.s0; have := HA.out.ok.t0; unfold Cfg.words; omega)
    HC.out (by have := HR.out.q1 (by have := HC.out; omega); have := Hq.out; have := HA.out.t11; have := HA.out.ok.e1; omega)
    (by have := Hlt.out; have := HB4.out.size; omega) Hne.out.2.1 Hne.out.1
  clear a1 a2 a3 kw ks hsv HX3 HBf3 HA3 HB4 hc'
  go_wp2_with fail
  refine ql.mono ?_
  rintro e9 w5 ⟨rfl, c1, c2, c3⟩
  have HA5 : Hid (Ar w5 ab ag c x sw (putw ws q n wd s)) := c1
  have HB5' : Hid (Bf w5 b (B.drop t n)) := c2
  have HT5 : Hid (Touch [b, ab, ag] w w5) := (Touch.of_below HB5.out _).then c3 (fun z hz => by simp at hz; rcases hz with h | h <;> simp [h])
  clear ql c1 c2 c3 HB5
  have HR5 : Hid (Rst x (B.drop t n) t) := by
    have z0 := HC.out
    have z1 := HR.out
    refine ⟨?_, ?_, ?_, ?_⟩
    all_goals unfold Bfs.drop
    all_goals rw [Bfs.put_ws]
    · omega
    · intro e; rw [Bfs.put_at, if_pos e]
    · intro e; rw [Bfs.put_at, if_neg (by omega)]; have := z1.q0 (by omega); omega
    · intro e; rw [Bfs.put_at, if_neg (by omega)]; have := z1.q1 (by omega); omega
  go_wp2
  refine leaves_cons (f := 50) (args := #[.pointer (some ⟨b, 2 + t * 2, none⟩), .pointer (some ⟨ab, 0, none⟩)]) (by simp) (by simp [go_sem]) ?_
  refine (bfill_any HB5'.out t ht8 HR5.out HA5.out .returning).mono ?_
  rintro e9 u' w6 ⟨rfl, rfl, d1, d2⟩
  exact ⟨_, results_tmp2 Tryz.results15 _ _ _, rfl, d1, HB5'.out.touch d2 (by simpa using Hne.out.2.1), HT5.out.then d2 (fun z hz => by simp at hz; simp [hz])⟩

set_option maxHeartbeats 4000000 in
/-- The thread has a new buffer. -/
theorem bput_new {w : World} {b ab ag : Nat} {B : Bfs} {c : Cfg} {x : Tps} {sw : Bool} {ws : Nat → Int} (hB : Bf w b B) (hA : Ar w ab ag c x sw ws) (hL : Laid w) (hne : b ≠ ab ∧ b ≠ ag) (hgl : 1 ∉ [b, ab, ag] ∧ 0 ∉ [b, ab, ag]) (t : Nat) (ht : (t : Int) < B.n) (hR : Rst x B t) (s k p r a y : Int) (h : Bool) (hs : Wd s) (hf : flt k p r a y = 0) (n : Nat) (hn : (n : Int) = 2 + p + r) (hc : ¬ (n : Int) ≤ B.ws t) (hc1 : (n : Int) ≤ B.size) (hc2 : (n : Int) ≤ 1 + c.eden - x.t1) (q z : Nat) (hq : x.t1 = q) (hz : min B.size (1 + c.eden - x.t1) = z) :
    Calls Tryz.prog 15 #[.pointer (some ⟨b, 0, none⟩), .pointer (some ⟨ab, 0, none⟩), .int .i64 t, hv s k p r a y h] w fun e w' => e = .returned (.tuple #[.int .i64 q, .bool true]) ∧ Ar w' ab ag c (x.put 1 (q + z)) sw (fil13 (putw (zer ws q z) q n (wrd k p r a y h) s) (((B.put t q z).drop t n).at_ t) (((B.put t q z).drop t n).ws t)) ∧ Bf w' b ((B.put t q z).drop t n) ∧ Touch [b, ab, ag] w w' := by
  have b0 : Below w.heap.size w (w.alloc (.cells (hcells s k p r a y h) 46)) := Below.alloc (Below.refl _ _) (Nat.le_refl _) _
  have hp := pack_any s k p r a y h _ (hL.keep b0)
  have x0 := Box.new w 46 (.int .u64 s) (.int .i64 k) (.int .i64 p) (.int .i64 r) (.int .i64 a) (.int .i64 y) (.bool h)
  have m := May.of hf
  rw [hf, pck_ok hf] at hp
  have hwd := wrd_wd (h := h) m
  have hsz : siz (wrd k p r a y h) = n := by
    obtain ⟨-, e1, e2, -⟩ := parts_wrd (h := h) m
    unfold siz
    rw [if_pos (head_wrd m), e1, e2, hn]
  have hn2 : 2 ≤ n := by have := m.p0; have := m.r0; omega
  have hn3 : n ≤ 70000 := by have := m.p1; have := m.r1; omega
  have ht8 : t < 8 := by have := hB.n1; omega
  have wo := hA.words
  have HWd : Hid (Wd (wrd k p r a y h)) := hwd
  have HWs : Hid (Wd s) := hs
  have HSz : Hid (siz (wrd k p r a y h) = n) := hsz
  have HA : Hid (Ar w ab ag c x sw ws) := hA
  have HBf : Hid (Bf w b B) := hB
  have HL : Hid (Laid w) := hL
  have Hgl : Hid (1 ∉ [b, ab, ag] ∧ 0 ∉ [b, ab, ag]) := hgl
  have Hne : Hid (b ≠ ab ∧ b ≠ ag ∧ ab ≠ ag) := ⟨hne.1, hne.2, hA.ne⟩
  have HR : Hid (Rst x B t) := hR
  have Hlt : Hid (b < w.heap.size ∧ ab < w.heap.size ∧ ag < w.heap.size) := ⟨hB.own.lt, hA.own.lt, hA.row.lt⟩
  have htn : (t : Int) < B.n := ht
  generalize wrd k p r a y h = wd at hp HWd HSz ⊢
  have HN : Hid ((n : Int) = 2 + p + r) := hn
  clear hwd hsz hs hf m hA hB hL hne hgl hR ht hn
  go_enter_defers Tryz.func15, Tryz.ntmps15
  go_wp2_with fail
  refine hp.mono ?_
  rintro e9 w1 ⟨rfl, b1⟩
  have b2 := b0.trans (b1.mono b0.size)
  have HX1 : Hid (Box w1 w.heap.size (.int .u64 s) (.int .i64 k) (.int .i64 p) (.int .i64 r) (.int .i64 a) (.int .i64 y) (.bool h)) := x0.keep b1 x0.lt
  have HB2 : Hid (Below w.heap.size w w1) := b2
  clear b0 b1 b2 hp x0
  have qh := bhas_any (HBf.out.below HB2.out) t
  rw [decide_eq_true (⟨by omega, htn⟩ : 0 ≤ (t : Int) ∧ (t : Int) < B.n)] at qh
  go_wp2_with fail
  refine qh.mono ?_
  rintro e9 w9 ⟨rfl, rfl⟩
  clear qh
  have qs := size_any wd HWd.out w1 (HL.out.keep HB2.out)
  rw [HSz.out] at qs
  go_wp2_with fail
  refine qs.mono ?_
  rintro e9 w2 ⟨rfl, b3⟩
  have HB3 : Hid (Below w.heap.size w w2) := HB2.out.trans (b3.mono HB2.out.size)
  have HX2 : Hid (Box w2 w.heap.size (.int .u64 s) (.int .i64 k) (.int .i64 p) (.int .i64 r) (.int .i64 a) (.int .i64 y) (.bool h)) := HX1.out.keep b3 HX1.out.lt
  clear qs b3 HB2 HX1
  have qf := free_any ab ag c x sw ws 1 w2 (HA.out.below HB3.out)
  have efr : bhd c 1 - x.top 1 = 1 + c.eden - x.t1 := rfl
  rw [efr] at qf
  clear efr
  go_wp2_with fail
  refine qf.mono ?_
  rintro e9 w3 ⟨rfl, b4⟩
  have HB4 : Hid (Below w.heap.size w w3) := HB3.out.trans (b4.mono HB3.out.size)
  have HX3 : Hid (Box w3 w.heap.size (.int .u64 s) (.int .i64 k) (.int .i64 p) (.int .i64 r) (.int .i64 a) (.int .i64 y) (.bool h)) := HX2.out.keep b4 HX2.out.lt
  clear qf b4 HB3 HX2
  have HBf3 : Hid (Bf w3 b B) := HBf.out.below HB4.out
  have HA3 : Hid (Ar w3 ab ag c x sw ws) := HA.out.below HB4.out
  have kw := HBf3.out.cell (2 + t * 2 + 1) (by omega) _ (bf_ws B t)
  have ks := HBf3.out.cell 1 (by omega) (.int .i64 B.size) rfl
  have hsv := HX3.out.h0
  have hc' : decide ((n : Int) ≤ B.ws t) = false := decide_eq_false (by omega)
  have hc1' : decide ((n : Int) ≤ B.size) = true := decide_eq_true hc1
  have hc2' : decide ((n : Int) ≤ 1 + c.eden - x.t1) = true := decide_eq_true hc2
  have hzz : (if 1 + c.eden - x.t1 < B.size then 1 + c.eden - x.t1 else B.size) = (z : Int) := by rw [← hz]; omega
  have HZ : Hid ((n : Int) ≤ z ∧ (z : Int) ≤ 1 + c.eden - x.t1) := ⟨by omega, by omega⟩
  have Hq : Hid (x.t1 = q) := hq
  have HTk : Hid (Calls Tryz.prog 55 #[.pointer (some ⟨ab, 0, none⟩), .int .i64 z] w3 fun e w' => e = .returned (.agg #[.int .i64 q, .int .i64 z]) ∧ Ar w' ab ag c (x.put 1 (q + z)) sw (zer ws q z) ∧ Touch [ab, ag] w3 w') := btaken_any HA3.out q z hq (by omega) (by omega)
  generalize B.ws t = W at kw hc hc'
  generalize 1 + c.eden - x.t1 = fr at hc2' hzz ⊢
  generalize B.size = sz at ks hc1' hzz
  clear hq hc hc1 hc2 hz
  go_wp2_with fail
  refine HTk.out.mono ?_
  rintro e9 w4 ⟨rfl, a1, a2⟩
  have hB4 : Bf w4 b B := HBf3.out.touch a2 (by simpa using ⟨Hne.out.1, Hne.out.2.1⟩)
  have ka4 := hB4.cell (2 + t * 2) (by omega) _ (bf_at B t)
  have kw4 := hB4.cell (2 + t * 2 + 1) (by omega) _ (bf_ws B t)
  have za4 := hB4.frozen (2 + t * 2)
  have zw4 := hB4.frozen (2 + t * 2 + 1)
  have hs4 : w4.cell? ⟨w.heap.size, 0, none⟩ = some (.int .u64 s) := by
    rw [World.cell?_of_block (w := w3) (a2.block _ HX3.out.lt (by have := Hlt.out; simp; omega))]
    exact hsv
  have hs5 : ((w4.setCell ⟨b, 2 + t * 2, none⟩ (.int .i64 q)).setCell ⟨b, 2 + t * 2 + 1, none⟩ (.int .i64 z)).cell? ⟨w.heap.size, 0, none⟩ = some (.int .u64 s) := by
    rw [World.cell?_setCell_other _ _ _ _ (fun e => by have := Hlt.out; injection e; omega), World.cell?_setCell_other _ _ _ _ (fun e => by have := Hlt.out; injection e; omega)]
    exact hs4
  have T5 : Touch [b] w4 ((w4.setCell ⟨b, 2 + t * 2, none⟩ (.int .i64 q)).setCell ⟨b, 2 + t * 2 + 1, none⟩ (.int .i64 z)) := (Touch.setCell _ _ _ (by simp)).trans (Touch.setCell _ _ _ (by simp))
  have HQ5 : Hid (Bf ((w4.setCell ⟨b, 2 + t * 2, none⟩ (.int .i64 q)).setCell ⟨b, 2 + t * 2 + 1, none⟩ (.int .i64 z)) b (B.put t q z)) := by
    have h9 := (hB4.setAt t q).setWs t z
    rw [Bfs.put_put, Bfs.put_at] at h9
    exact h9
  have HAq : Hid (Ar ((w4.setCell ⟨b, 2 + t * 2, none⟩ (.int .i64 q)).setCell ⟨b, 2 + t * 2 + 1, none⟩ (.int .i64 z)) ab ag c (x.put 1 (q + z)) sw (zer ws q z)) := a1.touch T5 (by simpa using fun e => Hne.out.1 e.symm) (by simpa using fun e => Hne.out.2.1 e.symm)
  have HTq : Hid (Touch [b, ab, ag] w ((w4.setCell ⟨b, 2 + t * 2, none⟩ (.int .i64 q)).setCell ⟨b, 2 + t * 2 + 1, none⟩ (.int .i64 z))) := ((Touch.of_below HB4.out [b, ab, ag]).then a2 (fun z hz => by simp at hz; rcases hz with h | h <;> simp [h])).then T5 (fun z hz => by simp at hz; simp [hz])
  clear T5 a1 a2 hB4 HTk kw ks hsv HBf3 HA3
  generalize B.at_ t = oa at ka4
  generalize B.ws t = ow at kw4
  go_upto_region 11 with fail
  clear ka4 kw4 za4 zw4 hs4
  generalize ((w4.setCell ⟨b, 2 + t * 2, none⟩ (.int .i64 q)).setCell ⟨b, 2 + t * 2 + 1, none⟩ (.int .i64 z)) = w5 at hs5 HQ5 HAq HTq ⊢
  have HL5 : Hid (Laid w5) := HL.out.touch HTq.out Hgl.out.1 Hgl.out.2
  go_wp2_with fail
  refine (bobject_any wd s HWd.out HWs.out n HSz.out hn2 hn3 w5 HL5.out).mono ?_
  rintro e9 w6 ⟨og, rfl, a1, a2, a3⟩
  have HT6 : Hid (Touch [b, ab, ag] w w6) := HTq.out.trans (Touch.of_below a2 _)
  have ql := blay_any HWd.out HWs.out (HQ5.out.below a2) t ht8 (HAq.out.below a2) n hn2 a1 q (Bfs.put_at _ _ _ _)
    (by have := HA.out.t10; have := Hq.out; omega)
    (by have := HZ.out; have := Hq.out; have := HA.out.ok.s0; have := HA.out.ok.t0; unfold Cfg.words; omega)
    (by rw [Bfs.put_ws]; exact HZ.out.1) (by rw [Bfs.put_ws]; have := HZ.out.2; have := HA.out.ok.e1; have := HA.out.t10; omega)
    (by have := Hlt.out; have := HTq.out.size; omega) Hne.out.2.1 Hne.out.1
  clear a1 a2 a3 hs5 HX3 HQ5 HAq HTq hc' hc1' hc2' HB4
  go_wp2_with fail
  refine ql.mono ?_
  rintro e9 w7 ⟨rfl, c1, c2, c3⟩
  have HA5 : Hid (Ar w7 ab ag c (x.put 1 (q + z)) sw (putw (zer ws q z) q n wd s)) := c1
  have HB5' : Hid (Bf w7 b ((B.put t q z).drop t n)) := c2
  have HT5 : Hid (Touch [b, ab, ag] w w7) := HT6.out.then c3 (fun z hz => by simp at hz; rcases hz with h | h <;> simp [h])
  clear ql c1 c2 c3 HT6
  have HR5 : Hid (Rst (x.put 1 (q + z)) ((B.put t q z).drop t n) t) := by
    have z0 := HZ.out
    have z1 := HA.out.t10
    have z2 := Hq.out
    have z3 : (x.put 1 ((q : Int) + z)).t1 = q + z := rfl
    refine ⟨?_, ?_, ?_, ?_⟩
    all_goals unfold Bfs.drop
    all_goals rw [Bfs.put_ws, Bfs.put_ws]
    · omega
    · intro e; rw [Bfs.put_at, if_pos e]
    · intro e; rw [Bfs.put_at, if_neg (by omega), Bfs.put_at]; omega
    · intro e; rw [Bfs.put_at, if_neg (by omega), Bfs.put_at, z3]; omega
  go_wp2
  refine leaves_cons (f := 50) (args := #[.pointer (some ⟨b, 2 + t * 2, none⟩), .pointer (some ⟨ab, 0, none⟩)]) (by simp) (by simp [go_sem]) ?_
  refine (bfill_any HB5'.out t ht8 HR5.out HA5.out .returning).mono ?_
  rintro e9 u' w6 ⟨rfl, rfl, d1, d2⟩
  exact ⟨_, results_tmp2 Tryz.results15 _ _ _, rfl, d1, HB5'.out.touch d2 (by simpa using Hne.out.2.1), HT5.out.then d2 (fun z hz => by simp at hz; simp [hz])⟩

set_option maxHeartbeats 4000000 in
/-- The object goes into eden past the buffers. -/
theorem bput_eden {w : World} {b ab ag : Nat} {B : Bfs} {c : Cfg} {x : Tps} {sw : Bool} {ws : Nat → Int} (hB : Bf w b B) (hA : Ar w ab ag c x sw ws) (hL : Laid w) (hne : b ≠ ab ∧ b ≠ ag) (hgl : 1 ∉ [b, ab, ag] ∧ 0 ∉ [b, ab, ag]) (t : Nat) (ht : (t : Int) < B.n) (hR : Rst x B t) (s k p r a y : Int) (h : Bool) (hs : Wd s) (hf : flt k p r a y = 0) (n : Nat) (hn : (n : Int) = 2 + p + r) (hc : ¬ (n : Int) ≤ B.ws t) (hc1 : ¬ ((n : Int) ≤ B.size ∧ (n : Int) ≤ 1 + c.eden - x.t1)) (hc2 : (n : Int) ≤ 1 + c.eden - x.t1) (q : Nat) (hq : x.t1 = q) :
    Calls Tryz.prog 15 #[.pointer (some ⟨b, 0, none⟩), .pointer (some ⟨ab, 0, none⟩), .int .i64 t, hv s k p r a y h] w fun e w' => e = .returned (.tuple #[.int .i64 q, .bool true]) ∧ Ar w' ab ag c (x.put 1 (q + n)) sw (fil13 (putw ws q n (wrd k p r a y h) s) (B.at_ t) (B.ws t)) ∧ Bf w' b B ∧ Touch [b, ab, ag] w w' := by
  have qput : Hid (∀ W, Ar W ab ag c x sw ws → Laid W → Calls Tryz.prog 17 #[.pointer (some ⟨ab, 0, none⟩), .int .i64 1, hv s k p r a y h] W fun e w' => e = .returned (.tuple #[.int .i64 q, .bool true]) ∧ Ar w' ab ag c (x.put 1 (q + n)) sw (putw ws q n (wrd k p r a y h) s) ∧ Touch [ab, ag] W w') := fun W h1 h2 => put_yes ab ag c x sw ws 1 s k p r a y h hs hf q n hq hn (by show (q : Int) + n ≤ 1 + c.eden; omega) W h1 h2
  have b0 : Below w.heap.size w (w.alloc (.cells (hcells s k p r a y h) 46)) := Below.alloc (Below.refl _ _) (Nat.le_refl _) _
  have hp := pack_any s k p r a y h _ (hL.keep b0)
  have x0 := Box.new w 46 (.int .u64 s) (.int .i64 k) (.int .i64 p) (.int .i64 r) (.int .i64 a) (.int .i64 y) (.bool h)
  have m := May.of hf
  rw [hf, pck_ok hf] at hp
  have hwd := wrd_wd (h := h) m
  have hsz : siz (wrd k p r a y h) = n := by
    obtain ⟨-, e1, e2, -⟩ := parts_wrd (h := h) m
    unfold siz
    rw [if_pos (head_wrd m), e1, e2, hn]
  have hn2 : 2 ≤ n := by have := m.p0; have := m.r0; omega
  have hn3 : n ≤ 70000 := by have := m.p1; have := m.r1; omega
  have ht8 : t < 8 := by have := hB.n1; omega
  have wo := hA.words
  have HWd : Hid (Wd (wrd k p r a y h)) := hwd
  have HWs : Hid (Wd s) := hs
  have HSz : Hid (siz (wrd k p r a y h) = n) := hsz
  have HA : Hid (Ar w ab ag c x sw ws) := hA
  have HBf : Hid (Bf w b B) := hB
  have HL : Hid (Laid w) := hL
  have Hgl : Hid (1 ∉ [b, ab, ag] ∧ 0 ∉ [b, ab, ag]) := hgl
  have Hne : Hid (b ≠ ab ∧ b ≠ ag ∧ ab ≠ ag) := ⟨hne.1, hne.2, hA.ne⟩
  have HR : Hid (Rst x B t) := hR
  have Hlt : Hid (b < w.heap.size ∧ ab < w.heap.size ∧ ag < w.heap.size) := ⟨hB.own.lt, hA.own.lt, hA.row.lt⟩
  have htn : (t : Int) < B.n := ht
  generalize wrd k p r a y h = wd at hp HWd HSz qput ⊢
  have HN : Hid ((n : Int) = 2 + p + r) := hn
  clear hwd hsz hs hf m hA hB hL hne hgl hR ht hn
  go_enter_defers Tryz.func15, Tryz.ntmps15
  go_wp2_with fail
  refine hp.mono ?_
  rintro e9 w1 ⟨rfl, b1⟩
  have b2 := b0.trans (b1.mono b0.size)
  have HX1 : Hid (Box w1 w.heap.size (.int .u64 s) (.int .i64 k) (.int .i64 p) (.int .i64 r) (.int .i64 a) (.int .i64 y) (.bool h)) := x0.keep b1 x0.lt
  have HB2 : Hid (Below w.heap.size w w1) := b2
  clear b0 b1 b2 hp x0
  have qh := bhas_any (HBf.out.below HB2.out) t
  rw [decide_eq_true (⟨by omega, htn⟩ : 0 ≤ (t : Int) ∧ (t : Int) < B.n)] at qh
  go_wp2_with fail
  refine qh.mono ?_
  rintro e9 w9 ⟨rfl, rfl⟩
  clear qh
  have qs := size_any wd HWd.out w1 (HL.out.keep HB2.out)
  rw [HSz.out] at qs
  go_wp2_with fail
  refine qs.mono ?_
  rintro e9 w2 ⟨rfl, b3⟩
  have HB3 : Hid (Below w.heap.size w w2) := HB2.out.trans (b3.mono HB2.out.size)
  have HX2 : Hid (Box w2 w.heap.size (.int .u64 s) (.int .i64 k) (.int .i64 p) (.int .i64 r) (.int .i64 a) (.int .i64 y) (.bool h)) := HX1.out.keep b3 HX1.out.lt
  clear qs b3 HB2 HX1
  have qf := free_any ab ag c x sw ws 1 w2 (HA.out.below HB3.out)
  have efr : bhd c 1 - x.top 1 = 1 + c.eden - x.t1 := rfl
  rw [efr] at qf
  clear efr
  go_wp2_with fail
  refine qf.mono ?_
  rintro e9 w3 ⟨rfl, b4⟩
  have HB4 : Hid (Below w.heap.size w w3) := HB3.out.trans (b4.mono HB3.out.size)
  have HX3 : Hid (Box w3 w.heap.size (.int .u64 s) (.int .i64 k) (.int .i64 p) (.int .i64 r) (.int .i64 a) (.int .i64 y) (.bool h)) := HX2.out.keep b4 HX2.out.lt
  clear qf b4 HB3 HX2
  have HBf3 : Hid (Bf w3 b B) := HBf.out.below HB4.out
  have HA3 : Hid (Ar w3 ab ag c x sw ws) := HA.out.below HB4.out
  have kw := HBf3.out.cell (2 + t * 2 + 1) (by omega) _ (bf_ws B t)
  have ks := HBf3.out.cell 1 (by omega) (.int .i64 B.size) rfl
  have hsv := HX3.out.h0
  have hc' : decide ((n : Int) ≤ B.ws t) = false := decide_eq_false (by omega)
  have hc1' : decide ((n : Int) ≤ B.size) = false := decide_eq_false (by omega)
  generalize B.ws t = W at kw hc hc'
  generalize 1 + c.eden - x.t1 = fr at *
  generalize B.size = sz at ks hc1'
  obtain ⟨y0, y1, y2, y3, y4, y5, y6, -, -, -, -, -, -, -⟩ := HX3.out
  clear hc hc1 hc2
  go_wp2_with fail
  refine (qput.out w3 HA3.out (HL.out.keep HB4.out)).mono ?_
  rintro e9 w5 ⟨rfl, a1, a2⟩
  have HA5 : Hid (Ar w5 ab ag c (x.put 1 (q + n)) sw (putw ws q n wd s)) := a1
  have HB5' : Hid (Bf w5 b B) := HBf3.out.touch a2 (by simpa using ⟨Hne.out.1, Hne.out.2.1⟩)
  have HT5 : Hid (Touch [b, ab, ag] w w5) := (Touch.of_below HB4.out _).then a2 (fun z hz => by simp at hz; rcases hz with h | h <;> simp [h])
  have HR5 : Hid (Rst (x.put 1 (q + n)) B t) := ⟨HR.out.n0, HR.out.z, HR.out.q0, fun e => by have := HR.out.q1 e; show B.at_ t + B.ws t ≤ (q : Int) + n; omega⟩
  clear a1 a2 kw ks hsv y0 y1 y2 y3 y4 y5 y6 HX3 HBf3 HA3 HB4 qput
  go_wp2
  refine leaves_cons (f := 50) (args := #[.pointer (some ⟨b, 2 + t * 2, none⟩), .pointer (some ⟨ab, 0, none⟩)]) (by simp) (by simp [go_sem]) ?_
  refine (bfill_any HB5'.out t ht8 HR5.out HA5.out .returning).mono ?_
  rintro e9 u' w6 ⟨rfl, rfl, d1, d2⟩
  exact ⟨_, results_tmp2 Tryz.results15 _ _ _, rfl, d1, HB5'.out.touch d2 (by simpa using Hne.out.2.1), HT5.out.then d2 (fun z hz => by simp at hz; simp [hz])⟩

set_option maxHeartbeats 4000000 in
/-- There is no room. -/
theorem bput_full {w : World} {b ab ag : Nat} {B : Bfs} {c : Cfg} {x : Tps} {sw : Bool} {ws : Nat → Int} (hB : Bf w b B) (hA : Ar w ab ag c x sw ws) (hL : Laid w) (hne : b ≠ ab ∧ b ≠ ag) (hgl : 1 ∉ [b, ab, ag] ∧ 0 ∉ [b, ab, ag]) (t : Nat) (ht : (t : Int) < B.n) (hR : Rst x B t) (s k p r a y : Int) (h : Bool) (hs : Wd s) (hf : flt k p r a y = 0) (n : Nat) (hn : (n : Int) = 2 + p + r) (hc : ¬ (n : Int) ≤ B.ws t) (hc2 : ¬ (n : Int) ≤ 1 + c.eden - x.t1) :
    Calls Tryz.prog 15 #[.pointer (some ⟨b, 0, none⟩), .pointer (some ⟨ab, 0, none⟩), .int .i64 t, hv s k p r a y h] w fun e w' => e = .returned (.tuple #[.int .i64 0, .bool false]) ∧ Ar w' ab ag c x sw (fil13 ws (B.at_ t) (B.ws t)) ∧ Bf w' b B ∧ Touch [b, ab, ag] w w' := by
  have qput : Hid (∀ W, Ar W ab ag c x sw ws → Laid W → Calls Tryz.prog 17 #[.pointer (some ⟨ab, 0, none⟩), .int .i64 1, hv s k p r a y h] W fun e w' => e = .returned (.tuple #[.int .i64 0, .bool false]) ∧ Below W.heap.size W w') := fun W h1 h2 => put_full ab ag c x sw ws 1 s k p r a y h hf (by show ¬ 2 + p + r ≤ 1 + c.eden - x.t1; omega) W h1 h2
  have b0 : Below w.heap.size w (w.alloc (.cells (hcells s k p r a y h) 46)) := Below.alloc (Below.refl _ _) (Nat.le_refl _) _
  have hp := pack_any s k p r a y h _ (hL.keep b0)
  have x0 := Box.new w 46 (.int .u64 s) (.int .i64 k) (.int .i64 p) (.int .i64 r) (.int .i64 a) (.int .i64 y) (.bool h)
  have m := May.of hf
  rw [hf, pck_ok hf] at hp
  have hwd := wrd_wd (h := h) m
  have hsz : siz (wrd k p r a y h) = n := by
    obtain ⟨-, e1, e2, -⟩ := parts_wrd (h := h) m
    unfold siz
    rw [if_pos (head_wrd m), e1, e2, hn]
  have hn2 : 2 ≤ n := by have := m.p0; have := m.r0; omega
  have hn3 : n ≤ 70000 := by have := m.p1; have := m.r1; omega
  have ht8 : t < 8 := by have := hB.n1; omega
  have wo := hA.words
  have HWd : Hid (Wd (wrd k p r a y h)) := hwd
  have HWs : Hid (Wd s) := hs
  have HSz : Hid (siz (wrd k p r a y h) = n) := hsz
  have HA : Hid (Ar w ab ag c x sw ws) := hA
  have HBf : Hid (Bf w b B) := hB
  have HL : Hid (Laid w) := hL
  have Hgl : Hid (1 ∉ [b, ab, ag] ∧ 0 ∉ [b, ab, ag]) := hgl
  have Hne : Hid (b ≠ ab ∧ b ≠ ag ∧ ab ≠ ag) := ⟨hne.1, hne.2, hA.ne⟩
  have HR : Hid (Rst x B t) := hR
  have Hlt : Hid (b < w.heap.size ∧ ab < w.heap.size ∧ ag < w.heap.size) := ⟨hB.own.lt, hA.own.lt, hA.row.lt⟩
  have htn : (t : Int) < B.n := ht
  generalize wrd k p r a y h = wd at hp HWd HSz ⊢
  have HN : Hid ((n : Int) = 2 + p + r) := hn
  clear hwd hsz hs hf m hA hB hL hne hgl hR ht hn
  go_enter_defers Tryz.func15, Tryz.ntmps15
  go_wp2_with fail
  refine hp.mono ?_
  rintro e9 w1 ⟨rfl, b1⟩
  have b2 := b0.trans (b1.mono b0.size)
  have HX1 : Hid (Box w1 w.heap.size (.int .u64 s) (.int .i64 k) (.int .i64 p) (.int .i64 r) (.int .i64 a) (.int .i64 y) (.bool h)) := x0.keep b1 x0.lt
  have HB2 : Hid (Below w.heap.size w w1) := b2
  clear b0 b1 b2 hp x0
  have qh := bhas_any (HBf.out.below HB2.out) t
  rw [decide_eq_true (⟨by omega, htn⟩ : 0 ≤ (t : Int) ∧ (t : Int) < B.n)] at qh
  go_wp2_with fail
  refine qh.mono ?_
  rintro e9 w9 ⟨rfl, rfl⟩
  clear qh
  have qs := size_any wd HWd.out w1 (HL.out.keep HB2.out)
  rw [HSz.out] at qs
  go_wp2_with fail
  refine qs.mono ?_
  rintro e9 w2 ⟨rfl, b3⟩
  have HB3 : Hid (Below w.heap.size w w2) := HB2.out.trans (b3.mono HB2.out.size)
  have HX2 : Hid (Box w2 w.heap.size (.int .u64 s) (.int .i64 k) (.int .i64 p) (.int .i64 r) (.int .i64 a) (.int .i64 y) (.bool h)) := HX1.out.keep b3 HX1.out.lt
  clear qs b3 HB2 HX1
  have qf := free_any ab ag c x sw ws 1 w2 (HA.out.below HB3.out)
  have efr : bhd c 1 - x.top 1 = 1 + c.eden - x.t1 := rfl
  rw [efr] at qf
  clear efr
  go_wp2_with fail
  refine qf.mono ?_
  rintro e9 w3 ⟨rfl, b4⟩
  have HB4 : Hid (Below w.heap.size w w3) := HB3.out.trans (b4.mono HB3.out.size)
  have HX3 : Hid (Box w3 w.heap.size (.int .u64 s) (.int .i64 k) (.int .i64 p) (.int .i64 r) (.int .i64 a) (.int .i64 y) (.bool h)) := HX2.out.keep b4 HX2.out.lt
  clear qf b4 HB3 HX2
  have HBf3 : Hid (Bf w3 b B) := HBf.out.below HB4.out
  have HA3 : Hid (Ar w3 ab ag c x sw ws) := HA.out.below HB4.out
  have kw := HBf3.out.cell (2 + t * 2 + 1) (by omega) _ (bf_ws B t)
  have ks := HBf3.out.cell 1 (by omega) (.int .i64 B.size) rfl
  have hsv := HX3.out.h0
  have hc' : decide ((n : Int) ≤ B.ws t) = false := decide_eq_false (by omega)
  have hc2' : decide ((n : Int) ≤ 1 + c.eden - x.t1) = false := decide_eq_false (by omega)
  generalize B.ws t = W at kw hc hc'
  generalize 1 + c.eden - x.t1 = fr at *
  generalize B.size = sz at ks
  obtain ⟨y0, y1, y2, y3, y4, y5, y6, -, -, -, -, -, -, -⟩ := HX3.out
  clear hc hc2
  obtain ⟨d1, hd1⟩ : ∃ d, d = decide ((n : Int) ≤ sz) := ⟨_, rfl⟩
  cases d1
  all_goals (
    have hd1' := hd1.symm
    clear hd1
    go_wp2_with fail
    refine (qput.out w3 HA3.out (HL.out.keep HB4.out)).mono ?_
    rintro e9 w5 ⟨rfl, a2⟩
    have HA5 : Hid (Ar w5 ab ag c x sw ws) := HA3.out.below a2
    have HB5' : Hid (Bf w5 b B) := HBf3.out.below a2
    have HT5 : Hid (Touch [b, ab, ag] w w5) := Touch.of_below (HB4.out.trans (a2.mono HB4.out.size)) _
    have HR5 : Hid (Rst x B t) := HR.out
    clear a2 kw ks hsv y0 y1 y2 y3 y4 y5 y6 HX3 HBf3 HA3 HB4 qput
    go_wp2
    refine leaves_cons (f := 50) (args := #[.pointer (some ⟨b, 2 + t * 2, none⟩), .pointer (some ⟨ab, 0, none⟩)]) (by simp) (by simp [go_sem]) ?_
    refine (bfill_any HB5'.out t ht8 HR5.out HA5.out .returning).mono ?_
    rintro e9 u' w6 ⟨rfl, rfl, d1, d2⟩
    exact ⟨_, results_tmp2 Tryz.results15 _ _ _, rfl, d1, HB5'.out.touch d2 (by simpa using Hne.out.2.1), HT5.out.then d2 (fun z hz => by simp at hz; simp [hz])⟩)

end Go.Proofs.YtpiemfchjlihfaaGreatDoor
