/-
  PolicyEnds: its walk. (mkPE2.py prints this text.)
-/
import Derived.Test.YtcijdbhabbepaaaPE1
import Derived.Test.YtcijdbhabbepaaaKGL
set_option linter.unusedVariables false
set_option maxRecDepth 20000
namespace Go.Proofs.Ytcijdbhabbepaaa.Po
open Go.RowKit Go.Proofs.Ytcijdbhabbepaaa.Kg

theorem own_slice {B : Nat} {w : World} {e : TypeId} {v : Value} {n : Nat} {xs : List Value} (h : w.ownsRow B e 1 v n xs) : ∃ a cap, v = .slice a n cap := by
  obtain ⟨hl, ⟨h0, h1⟩ | ⟨g, cap, cur, rfl, _⟩⟩ := h
  · subst h1; exact ⟨_, _, h0⟩
  · exact ⟨_, _, rfl⟩

set_option maxHeartbeats 16000000 in
theorem ends_no (x : Ask) (w : World) (hx : AskIn w x) (fx : flt x.c x.base x.kind x.words ≠ 0) :
    Calls Try.prog 4 #[askv x] w fun e w' => e = .returned (.bool true) ∧ Below w.heap.size w w' := by
  obtain ⟨w0, hw0⟩ : ∃ q9, q9 = w.alloc (.cells (acells x) 30) := ⟨_, rfl⟩
  have hX0 : Abx w0 w.heap.size x := by rw [hw0]; exact heap_alloc_new w _
  have hW0 : Below w.heap.size w w0 := by rw [hw0]; exact Below.alloc (Below.refl _ _) (Nat.le_refl _) _
  have hs0 : w0.heap.size = w.heap.size + 1 := by rw [hw0]; simp
  have HW0 : Hid (Below w.heap.size w w0) := hW0
  have Hs0 : Hid (w0.heap.size = w.heap.size + 1) := hs0
  have Fx : Hid (flt x.c x.base x.kind x.words ≠ 0) := fx
  have HIx : Hid (AskIn w x) := hx
  have HX0a : Hid (Abx w0 w.heap.size x) := hX0
  have q := known_any w0
  clear hX0 hW0 hs0 hx fx
  go_enter Try.func4, Try.ntmps4
  go_upto_region 1 with fail
  rw [← hw0]
  clear hw0
  go_wp2_with fail
  refine q.mono ?_
  rintro e9 w1 ⟨rfl, r4⟩
  have HB1 : Hid (Below w0.heap.size w0 w1) := r4
  have HX1 : Hid (Abx w1 w.heap.size x) := HX0a.out.below r4 (heap_lt HX0a.out)
  clear q r4
  have k0 := ask_cell HX1.out 0 (.int .i64 x.c.eden) rfl
  have k1 := ask_cell HX1.out 1 (.int .i64 x.c.surv) rfl
  have k2 := ask_cell HX1.out 2 (.int .i64 x.c.ten) rfl
  have k3 := ask_cell HX1.out 3 (.int .i64 x.c.large) rfl
  have k4 := ask_cell HX1.out 4 (.int .i64 x.c.floor) rfl
  have k5 := ask_cell HX1.out 5 (.int .i64 x.c.num) rfl
  have k6 := ask_cell HX1.out 6 (.int .i64 x.c.den) rfl
  have k7 := ask_cell HX1.out 7 (.int .i64 x.c.target) rfl
  have k8 := ask_cell HX1.out 8 (.int .i64 x.c.maxAge) rfl
  have k9 := ask_cell HX1.out 9 (.int .i64 x.c.threads) rfl
  have k10 := ask_cell HX1.out 10 (.int .i64 x.c.slots) rfl
  have k11 := ask_cell HX1.out 11 (.int .i64 x.c.handles) rfl
  have k12 := ask_cell HX1.out 12 (.int .i64 x.c.buffer) rfl
  have k13 := ask_cell HX1.out 13 (.int .i64 x.c.workers) rfl
  have k14 := ask_cell HX1.out 14 (.int .i64 x.base) rfl
  have k15 := ask_cell HX1.out 15 (.int .i64 x.kind) rfl
  have k16 := ask_cell HX1.out 16 (.int .i64 x.words) rfl
  have q := pbegin_no Fx.out w1
  go_wp2_with fail
  refine q.mono ?_
  rintro e9 w2 ⟨rfl, r4⟩
  have HB2 : Hid (Below w0.heap.size w0 w2) := HB1.out.trans (r4.mono HB1.out.size)
  have HX2 : Hid (Abx w2 w.heap.size x) := HX1.out.below r4 (heap_lt HX1.out)
  clear q k0 k1 k2 k3 k4 k5 k6 k7 k8 k9 k10 k11 k12 k13 k14 k15 k16 r4 HX1
  have k0 := ask_cell HX2.out 0 (.int .i64 x.c.eden) rfl
  have k1 := ask_cell HX2.out 1 (.int .i64 x.c.surv) rfl
  have k2 := ask_cell HX2.out 2 (.int .i64 x.c.ten) rfl
  have k3 := ask_cell HX2.out 3 (.int .i64 x.c.large) rfl
  have k4 := ask_cell HX2.out 4 (.int .i64 x.c.floor) rfl
  have k5 := ask_cell HX2.out 5 (.int .i64 x.c.num) rfl
  have k6 := ask_cell HX2.out 6 (.int .i64 x.c.den) rfl
  have k7 := ask_cell HX2.out 7 (.int .i64 x.c.target) rfl
  have k8 := ask_cell HX2.out 8 (.int .i64 x.c.maxAge) rfl
  have k9 := ask_cell HX2.out 9 (.int .i64 x.c.threads) rfl
  have k10 := ask_cell HX2.out 10 (.int .i64 x.c.slots) rfl
  have k11 := ask_cell HX2.out 11 (.int .i64 x.c.handles) rfl
  have k12 := ask_cell HX2.out 12 (.int .i64 x.c.buffer) rfl
  have k13 := ask_cell HX2.out 13 (.int .i64 x.c.workers) rfl
  have k14 := ask_cell HX2.out 14 (.int .i64 x.base) rfl
  have k15 := ask_cell HX2.out 15 (.int .i64 x.kind) rfl
  have k16 := ask_cell HX2.out 16 (.int .i64 x.words) rfl
  have q := rbegin_no Fx.out w2
  go_wp2_with fail
  refine q.mono ?_
  rintro e9 w3 ⟨rfl, r4⟩
  have HB3 : Hid (Below w0.heap.size w0 w3) := HB2.out.trans (r4.mono HB2.out.size)
  have HX3 : Hid (Abx w3 w.heap.size x) := HX2.out.below r4 (heap_lt HX2.out)
  clear q k0 k1 k2 k3 k4 k5 k6 k7 k8 k9 k10 k11 k12 k13 k14 k15 k16 r4 HX2
  have HBW : Hid (Below w.heap.size w w3) := HW0.out.trans (HB3.out.mono HW0.out.size)
  generalize flt x.c x.base x.kind x.words = N at Fx ⊢
  have nx : (N == N) = true := by simp
  have nz : (N != 0) = true := by simpa using Fx.out
  go_wp2
  go_returns
  exact ⟨rfl, HBW.out⟩

set_option maxHeartbeats 16000000 in
theorem ends_yes (x : Ask) (w : World) (hx : AskIn w x) (fx : flt x.c x.base x.kind x.words = 0) :
    Calls Try.prog 4 #[askv x] w fun e w' => e = .returned (.bool true) ∧ Below w.heap.size w w' := by
  obtain ⟨w0, hw0⟩ : ∃ q9, q9 = w.alloc (.cells (acells x) 30) := ⟨_, rfl⟩
  have hX0 : Abx w0 w.heap.size x := by rw [hw0]; exact heap_alloc_new w _
  have hW0 : Below w.heap.size w w0 := by rw [hw0]; exact Below.alloc (Below.refl _ _) (Nat.le_refl _) _
  have hs0 : w0.heap.size = w.heap.size + 1 := by rw [hw0]; simp
  have HW0 : Hid (Below w.heap.size w w0) := hW0
  have Hs0 : Hid (w0.heap.size = w.heap.size + 1) := hs0
  have Fx : Hid (flt x.c x.base x.kind x.words = 0) := fx
  have HIx : Hid (AskIn w x) := hx
  have HX0a : Hid (Abx w0 w.heap.size x) := hX0
  have q := known_any w0
  clear hX0 hW0 hs0 hx fx
  go_enter Try.func4, Try.ntmps4
  go_upto_region 1 with fail
  rw [← hw0]
  clear hw0
  go_wp2_with fail
  refine q.mono ?_
  rintro e9 w1 ⟨rfl, r4⟩
  have HB1 : Hid (Below w0.heap.size w0 w1) := r4
  have HX1 : Hid (Abx w1 w.heap.size x) := HX0a.out.below r4 (heap_lt HX0a.out)
  clear q r4
  have k0 := ask_cell HX1.out 0 (.int .i64 x.c.eden) rfl
  have k1 := ask_cell HX1.out 1 (.int .i64 x.c.surv) rfl
  have k2 := ask_cell HX1.out 2 (.int .i64 x.c.ten) rfl
  have k3 := ask_cell HX1.out 3 (.int .i64 x.c.large) rfl
  have k4 := ask_cell HX1.out 4 (.int .i64 x.c.floor) rfl
  have k5 := ask_cell HX1.out 5 (.int .i64 x.c.num) rfl
  have k6 := ask_cell HX1.out 6 (.int .i64 x.c.den) rfl
  have k7 := ask_cell HX1.out 7 (.int .i64 x.c.target) rfl
  have k8 := ask_cell HX1.out 8 (.int .i64 x.c.maxAge) rfl
  have k9 := ask_cell HX1.out 9 (.int .i64 x.c.threads) rfl
  have k10 := ask_cell HX1.out 10 (.int .i64 x.c.slots) rfl
  have k11 := ask_cell HX1.out 11 (.int .i64 x.c.handles) rfl
  have k12 := ask_cell HX1.out 12 (.int .i64 x.c.buffer) rfl
  have k13 := ask_cell HX1.out 13 (.int .i64 x.c.workers) rfl
  have k14 := ask_cell HX1.out 14 (.int .i64 x.base) rfl
  have k15 := ask_cell HX1.out 15 (.int .i64 x.kind) rfl
  have k16 := ask_cell HX1.out 16 (.int .i64 x.words) rfl
  have q := pbegin_yes Fx.out w1
  go_wp2_with fail
  refine q.mono ?_
  rintro e9 w2 ⟨b, g, rfl, r1, r2, r3, r4⟩
  have HB2 : Hid (Below w0.heap.size w0 w2) := HB1.out.trans (r4.mono HB1.out.size)
  have HX2 : Hid (Abx w2 w.heap.size x) := HX1.out.below r4 (heap_lt HX1.out)
  have HP2 : Hid (Pt w2 w1.heap.size b (.slice none 0 0) g (tk x) t00 ∧ w1.heap.size ≤ b ∧ w1.heap.size ≤ g) := ⟨r3, r1, r2⟩
  clear q k0 k1 k2 k3 k4 k5 k6 k7 k8 k9 k10 k11 k12 k13 k14 k15 k16 r1 r2 r3 r4 HX1
  have k0 := ask_cell HX2.out 0 (.int .i64 x.c.eden) rfl
  have k1 := ask_cell HX2.out 1 (.int .i64 x.c.surv) rfl
  have k2 := ask_cell HX2.out 2 (.int .i64 x.c.ten) rfl
  have k3 := ask_cell HX2.out 3 (.int .i64 x.c.large) rfl
  have k4 := ask_cell HX2.out 4 (.int .i64 x.c.floor) rfl
  have k5 := ask_cell HX2.out 5 (.int .i64 x.c.num) rfl
  have k6 := ask_cell HX2.out 6 (.int .i64 x.c.den) rfl
  have k7 := ask_cell HX2.out 7 (.int .i64 x.c.target) rfl
  have k8 := ask_cell HX2.out 8 (.int .i64 x.c.maxAge) rfl
  have k9 := ask_cell HX2.out 9 (.int .i64 x.c.threads) rfl
  have k10 := ask_cell HX2.out 10 (.int .i64 x.c.slots) rfl
  have k11 := ask_cell HX2.out 11 (.int .i64 x.c.handles) rfl
  have k12 := ask_cell HX2.out 12 (.int .i64 x.c.buffer) rfl
  have k13 := ask_cell HX2.out 13 (.int .i64 x.c.workers) rfl
  have k14 := ask_cell HX2.out 14 (.int .i64 x.base) rfl
  have k15 := ask_cell HX2.out 15 (.int .i64 x.kind) rfl
  have k16 := ask_cell HX2.out 16 (.int .i64 x.words) rfl
  have q := rbegin_yes Fx.out w2
  go_wp2_with fail
  refine q.mono ?_
  rintro e9 w3 ⟨bv, rfl, r1, r3, r4⟩
  have HB3 : Hid (Below w0.heap.size w0 w3) := HB2.out.trans (r4.mono HB2.out.size)
  have HX3 : Hid (Abx w3 w.heap.size x) := HX2.out.below r4 (heap_lt HX2.out)
  have HP3 : Hid (Pt w3 w1.heap.size b (.slice none 0 0) g (tk x) t00) := HP2.out.1.below r4
  clear q k0 k1 k2 k3 k4 k5 k6 k7 k8 k9 k10 k11 k12 k13 k14 k15 k16 r1 r3 r4 HX2
  go_upto_region 10 with fail
  have HE : Hid (Eds w0.heap.size (w3.alloc (.cells (hcells (fun _ => 0)) 38)) (tk x) b g w3.heap.size 0 t00 (fun _ => 0)) := by
    obtain ⟨p1, p2, p3⟩ := HP2.out
    have z0 := HP3.out.lt
    have z1 := HP3.out.gl
    have h1 := HB1.out.size
    have h3 := HB3.out.size
    refine ⟨⟨.slice none 0 0, ?_, ?_, ?_⟩, Jn.start (flt_ok Fx.out).2.1, heap_alloc_new w3 _, h3, by simp, by simp⟩
    · have h9 : Pt (w3.alloc (.cells (hcells (fun _ => 0)) 38)) w1.heap.size b (.slice none 0 0) g (tk x) t00 := HP3.out.below (Below.alloc (Below.refl _ _) (Nat.le_refl _) _)
      exact ⟨h9.at_, row_base h9.row h1, h9.box, h9.gv, h9.gl, Nat.le_trans h1 h9.lo, h9.le⟩
    · simp only [Fq, Value.ownBlock, Option.toList, List.mem_cons, List.not_mem_nil, or_false]
      omega
    · intro q hq
      simp only [Fq, Value.ownBlock, Option.toList, List.mem_cons, List.not_mem_nil, or_false] at hq
      omega
  have HB4 : Hid (Below w0.heap.size w0 (w3.alloc (.cells (hcells (fun _ => 0)) 38))) := HB3.out.trans (Below.alloc (Below.refl _ _) (Nat.le_refl _) _ |>.mono HB3.out.size)
  have HXA : Hid (∀ wr, Below w0.heap.size w0 wr → Abx wr w.heap.size x) := fun wr h => HX0a.out.below h (by have := Hs0.out; omega)
  have HBW : Hid (∀ wr, Below w0.heap.size w0 wr → Below w.heap.size w wr) := fun wr h => HW0.out.trans (h.mono HW0.out.size)
  have HK : Hid (Tof (tk x) ∧ x.c.Ok) := ⟨tof_mk Fx.out HIx.out.ws, (flt_ok Fx.out).1⟩
  clear HP2 HP3 HB1 HB2 HB3 HX3 HX0a
  generalize (w3.alloc (.cells (hcells (fun _ => 0)) 38)) = w4 at HE HB4 ⊢
  generalize w3.heap.size = B at HE ⊢
  go_loopw [8, 9] (fun o i wr => ∃ (n : Nat) (t : Tst) (h : Int → Nat), i = .int .i64 n ∧ n ≤ 12 ∧ o = .bool t.ov ∧ Hid (Eds w0.heap.size wr (tk x) b g B n t h) ∧ Hid (Below w0.heap.size w0 wr)) (fun _ i _ => 12 - (intOf i).toNat)
  case atStart => exact ⟨0, t00, _, rfl, by omega, rfl, HE, HB4⟩
  case round =>
    obtain ⟨n, t, h, rfl, hn, rfl, HE, HBr⟩ := hrel
    clear HB4
    have kX := ask_cell (HXA.out wr HBr.out) 17 (.slice x.va x.L.length x.vc) rfl
    by_cases hlt : n < 12
    · have hli : (n : Int) < 12 := by omega
      have hmx : x.L.length ≤ maxLen := HIx.out.ln
      simp only [maxLen] at hmx
      by_cases hl : n < x.L.length
      · obtain ⟨f, hf⟩ : ∃ f, x.L[n]? = some f := ⟨_, List.getElem?_eq_getElem hl⟩
        obtain ⟨gx, ox, ex, hgx, v0, v1, v2, v3⟩ := (HIx.out.vs.below (HBW.out wr HBr.out)) n f hf
        have hgl : gx < wr.heap.size := Nat.lt_of_lt_of_le hgx (Nat.le_trans HW0.out.size HBr.out.size)
        have hxl : w.heap.size < wr.heap.size := by have := Hs0.out; have := HBr.out.size; omega
        have o0 : ∀ (o : Obj) (j : Nat), (wr.alloc o).cell? ⟨gx, j, none⟩ = wr.cell? ⟨gx, j, none⟩ := fun o j => by simp [World.cell?, Below.heap_alloc _ _ _ hgl]
        have ox0 : ∀ (o : Obj) (j : Nat), (wr.alloc o).cell? ⟨w.heap.size, j, none⟩ = wr.cell? ⟨w.heap.size, j, none⟩ := fun o j => by simp [World.cell?, Below.heap_alloc _ _ _ hxl]
        rw [ex] at kX
        have hlI : (n : Int) < x.L.length := by omega
        clear hf hgx hgl hxl
        go_upto_region 13 with fail
        have kX' := (ox0 (.cells #[.int .i64 0, .int .i64 0, .int .i64 0, .int .i64 0] 40) 17).trans kX
        have y0 := (o0 (.cells #[.int .i64 0, .int .i64 0, .int .i64 0, .int .i64 0] 40) _).trans v0
        have y1 := (o0 (.cells #[.int .i64 0, .int .i64 0, .int .i64 0, .int .i64 0] 40) _).trans v1
        have y2 := (o0 (.cells #[.int .i64 0, .int .i64 0, .int .i64 0, .int .i64 0] 40) _).trans v2
        have y3 := (o0 (.cells #[.int .i64 0, .int .i64 0, .int .i64 0, .int .i64 0] 40) _).trans v3
        clear o0 ox0
        go_upto_region 15 with fail
        clear kX' y0 y1 y2 y3 kX v0 v1 v2 v3 ex
        have hu0 := HE.out.ex
        obtain ⟨u, hu1, hu2, hu3⟩ := hu0
        have hlt9 : ∀ q, q ∈ Fq b u g → q < wr.heap.size := (stb_pt _ _ _ _ _ _).lt wr hu1
        have hb0 : Below wr.heap.size wr (wr.alloc (vbox f)) := Below.alloc (Below.refl _ _) (Nat.le_refl _) _
        have HE1 : Hid (Eds w0.heap.size (wr.alloc (vbox f)) (tk x) b g B n t h) := HE.out.below hb0
        have HU1 : Hid (Pt (wr.alloc (vbox f)) w0.heap.size b u g (tk x) t ∧ B ∉ Fq b u g ∧ ∀ q, q ∈ Fq b u g → w0.heap.size ≤ q) := ⟨hu1.below hb0, hu2, hu3⟩
        have HV1 : Hid ((wr.alloc (vbox f)).heap[wr.heap.size]? = some (.cells #[.int .i64 (f).er, .int .i64 (f).yo, .int .i64 (f).te, .int .i64 (f).tr] 40 (0, 0))) := heap_alloc_new wr _
        have HBa : Hid (Below w0.heap.size w0 (wr.alloc (vbox f))) := HBr.out.trans (hb0.mono HBr.out.size)
        have HVn : Hid (wr.heap.size ∉ Fq b u g ∧ wr.heap.size ≠ B) := ⟨fun hm => by have := hlt9 _ hm; omega, fun e => by have := heap_lt HE.out.had; omega⟩
        clear hu1 hu2 hu3 hlt9 hb0 HE HBr
        generalize (wr.alloc (vbox f)) = W1 at HE1 HU1 HV1 HBa ⊢
        generalize wr.heap.size = V at HV1 HVn ⊢
        have hs1 := (HE1.out.j.next f).1.s1
        obtain ⟨sn, hsn⟩ : ∃ sn : Nat, ((tk x).next t f).1 = sn := ⟨(((tk x).next t f).1).toNat, by omega⟩
        rw [hsn] at hs1
        have q := pnext_any HU1.out.1 (by have := (Go12.mk ⟨_, _, HE1.out.j⟩ : Go12 (tk x) t).len; omega) HK.out.1 HE1.out.j.oc f
        rw [hsn] at q
        have Hsn : Hid (((tk x).next t f).1 = sn) := hsn
        have g0 : W1.cell? ⟨V, 0, none⟩ = some (.int .i64 (f).er) := heap_cell HV1.out 0
        have g1 : W1.cell? ⟨V, 1, none⟩ = some (.int .i64 (f).yo) := heap_cell HV1.out 1
        have g2 : W1.cell? ⟨V, 2, none⟩ = some (.int .i64 (f).te) := heap_cell HV1.out 2
        have g3 : W1.cell? ⟨V, 3, none⟩ = some (.int .i64 (f).tr) := heap_cell HV1.out 3
        clear hsn
        go_wp2_with fail
        refine q.mono ?_
        rintro e9 w5 ⟨rfl, hG⟩
        obtain ⟨hA, hE2, b5, b6, kp⟩ := HE1.out.step HU1.out f hG sn Hsn.out HBa.out.size
        have HV5 : Hid (w5.heap[V]? = some (.cells #[.int .i64 (f).er, .int .i64 (f).yo, .int .i64 (f).te, .int .i64 (f).tr] 40 (0, 0))) := by
          obtain ⟨u', r1, r2, r3⟩ := hG.ex
          exact (r2.block V (heap_lt HV1.out) HVn.out.1).trans HV1.out
        have HV6 : Hid ((w5.setCell ⟨B, sn, none⟩ (.int .i64 ((h sn : Nat) + 1))).heap[V]? = some (.cells #[.int .i64 (f).er, .int .i64 (f).yo, .int .i64 (f).te, .int .i64 (f).tr] 40 (0, 0))) := by
          rw [(Kg.Touch.setCell (F := [B]) w5 ⟨B, sn, none⟩ (.int .i64 ((h sn : Nat) + 1)) (by simp)).block V (heap_lt HV5.out) (by simpa using HVn.out.2)]
          exact HV5.out
        have HA5 : Hid (Had w5 B h) := hA
        have HE6 : Hid (Eds w0.heap.size (w5.setCell ⟨B, sn, none⟩ (.int .i64 ((h sn : Nat) + 1))) (tk x) b g B (n + 1) ((tk x).next t f).2 (Po.bump h sn)) := hE2
        have HB6 : Hid (Below w0.heap.size w0 (w5.setCell ⟨B, sn, none⟩ (.int .i64 ((h sn : Nat) + 1)))) := HBa.out.trans b6
        have HKp : Hid (Kp (tk x) t n h f sn) := kp
        have HOV : Hid (((tk x).next t f).2.ov = (t.ov || decide ((sn : Int) = 7))) := by
          have h9 := next_ov (tk x) t f
          rw [Hsn.out] at h9
          exact h9
        have HLE : Hid (∀ j, h j ≤ 12) := fun j => Nat.le_trans (HE1.out.le j) (by omega)
        generalize ((tk x).next t f).2 = t' at HE6 HOV
        clear q hG hA hE2 b5 b6 kp HE1 HU1 HV1 HBa HVn Hsn g0 g1 g2 g3 HV5
        have hcase : sn = 1 ∨ sn = 2 ∨ sn = 3 ∨ sn = 4 ∨ sn = 5 ∨ sn = 6 ∨ sn = 7 := by omega
        clear hs1
        rcases hcase with rfl | rfl | rfl | rfl | rfl | rfl | rfl
        · as_aux_lemma =>
            have hov : t.ov = false := by
              cases e : t.ov with
              | false => rfl
              | true => have := HKp.out.o7 e; omega
            have hn5 : ¬ 5 ≤ (n : Int) := fun e => by have := HKp.out.i5 (by omega); omega
            have hn5' : decide (5 ≤ (n : Int)) = false := decide_eq_false hn5
            have Hov' : Hid (t'.ov = false) := HOV.out.trans (by rw [hov]; rfl)
            rw [hov]
            have ck := HA5.out.cell 1 (.int .i64 (h 1 : Nat)) rfl
            have zk := HA5.out.frozen 1
            have hk12 : (h 1 : Nat) ≤ 12 := HLE.out 1
            go_upto_region 19 with fail
            generalize (w5.setCell ⟨B, 1, none⟩ (.int .i64 ((h 1 : Nat) + 1))) = w6 at HV6 HE6 HB6 ⊢
            clear ck zk hk12 HA5 HLE
            have HE7 := HE6
            have HB7 := HB6
            clear HE6 HB6
            go_upto_region 23 with fail
            refine quiet_tail 21 mixed (by kernel_rfl) ?_
            simp only [List.take_succ_cons, List.take_zero, List.drop_succ_cons, List.drop_zero]
            repeat (go_big_quiet_step (fail))
            refine wpQuiet_nil ?_
            have HE8 : Hid (Eds w0.heap.size w6.drew (tk x) b g B (n + 1) t' (Po.bump h 1)) := HE7.out.below ((Kg.Touch.drew [] w6).below (Nat.le_refl _) (fun k hk => by cases hk))
            have HB8 : Hid (Below w0.heap.size w0 w6.drew) := HB7.out.trans ((Kg.Touch.drew [] w6).below HB7.out.size (fun k hk => by cases hk))
            clear HE7 HB7
            go_wp2
            go_roundw
            case rel => exact ⟨n + 1, t', _, by go_num, by omega, by rw [Hov'.out], HE8, HB8⟩
            case measure => simp [intOf]; omega
        · as_aux_lemma =>
            have hov : t.ov = false := by
              cases e : t.ov with
              | false => rfl
              | true => have := HKp.out.o7 e; omega
            have hn5 : ¬ 5 ≤ (n : Int) := fun e => by have := HKp.out.i5 (by omega); omega
            have hn5' : decide (5 ≤ (n : Int)) = false := decide_eq_false hn5
            have Hov' : Hid (t'.ov = false) := HOV.out.trans (by rw [hov]; rfl)
            rw [hov]
            have ck := HA5.out.cell 2 (.int .i64 (h 2 : Nat)) rfl
            have zk := HA5.out.frozen 2
            have hk12 : (h 2 : Nat) ≤ 12 := HLE.out 2
            go_upto_region 19 with fail
            generalize (w5.setCell ⟨B, 2, none⟩ (.int .i64 ((h 2 : Nat) + 1))) = w6 at HV6 HE6 HB6 ⊢
            clear ck zk hk12 HA5 HLE
            have HE7 := HE6
            have HB7 := HB6
            clear HE6 HB6
            go_upto_region 23 with fail
            refine quiet_tail 21 mixed (by kernel_rfl) ?_
            simp only [List.take_succ_cons, List.take_zero, List.drop_succ_cons, List.drop_zero]
            repeat (go_big_quiet_step (fail))
            refine wpQuiet_nil ?_
            have HE8 : Hid (Eds w0.heap.size w6.drew (tk x) b g B (n + 1) t' (Po.bump h 2)) := HE7.out.below ((Kg.Touch.drew [] w6).below (Nat.le_refl _) (fun k hk => by cases hk))
            have HB8 : Hid (Below w0.heap.size w0 w6.drew) := HB7.out.trans ((Kg.Touch.drew [] w6).below HB7.out.size (fun k hk => by cases hk))
            clear HE7 HB7
            go_wp2
            go_roundw
            case rel => exact ⟨n + 1, t', _, by go_num, by omega, by rw [Hov'.out], HE8, HB8⟩
            case measure => simp [intOf]; omega
        · as_aux_lemma =>
            have hov : t.ov = false := by
              cases e : t.ov with
              | false => rfl
              | true => have := HKp.out.o7 e; omega
            have hn5 : ¬ 5 ≤ (n : Int) := fun e => by have := HKp.out.i5 (by omega); omega
            have hn5' : decide (5 ≤ (n : Int)) = false := decide_eq_false hn5
            have Hov' : Hid (t'.ov = false) := HOV.out.trans (by rw [hov]; rfl)
            rw [hov]
            have ck := HA5.out.cell 3 (.int .i64 (h 3 : Nat)) rfl
            have zk := HA5.out.frozen 3
            have hk12 : (h 3 : Nat) ≤ 12 := HLE.out 3
            go_upto_region 19 with fail
            generalize (w5.setCell ⟨B, 3, none⟩ (.int .i64 ((h 3 : Nat) + 1))) = w6 at HV6 HE6 HB6 ⊢
            clear ck zk hk12 HA5 HLE
            have hsr : clp (f).yo ≤ clp (f).tr := HKp.out.sr (by simp)
            have q := sure_any f w6
            rw [decide_eq_true hsr] at q
            have g0 : w6.cell? ⟨V, 0, none⟩ = some (.int .i64 (f).er) := heap_cell HV6.out 0
            have g1 : w6.cell? ⟨V, 1, none⟩ = some (.int .i64 (f).yo) := heap_cell HV6.out 1
            have g2 : w6.cell? ⟨V, 2, none⟩ = some (.int .i64 (f).te) := heap_cell HV6.out 2
            have g3 : w6.cell? ⟨V, 3, none⟩ = some (.int .i64 (f).tr) := heap_cell HV6.out 3
            go_wp2_with fail
            refine q.mono ?_
            rintro e9 w7 ⟨rfl, b7⟩
            have HE7 : Hid (Eds w0.heap.size w7 (tk x) b g B (n + 1) t' (Po.bump h 3)) := HE6.out.below b7
            have HB7 : Hid (Below w0.heap.size w0 w7) := HB6.out.trans (b7.mono HB6.out.size)
            clear q b7 g0 g1 g2 g3 hsr HE6 HB6 HV6
            go_upto_region 23 with fail
            refine quiet_tail 21 mixed (by kernel_rfl) ?_
            simp only [List.take_succ_cons, List.take_zero, List.drop_succ_cons, List.drop_zero]
            repeat (go_big_quiet_step (fail))
            refine wpQuiet_nil ?_
            have HE8 : Hid (Eds w0.heap.size w7.drew (tk x) b g B (n + 1) t' (Po.bump h 3)) := HE7.out.below ((Kg.Touch.drew [] w7).below (Nat.le_refl _) (fun k hk => by cases hk))
            have HB8 : Hid (Below w0.heap.size w0 w7.drew) := HB7.out.trans ((Kg.Touch.drew [] w7).below HB7.out.size (fun k hk => by cases hk))
            clear HE7 HB7
            go_wp2
            go_roundw
            case rel => exact ⟨n + 1, t', _, by go_num, by omega, by rw [Hov'.out], HE8, HB8⟩
            case measure => simp [intOf]; omega
        · as_aux_lemma =>
            have hov : t.ov = false := by
              cases e : t.ov with
              | false => rfl
              | true => have := HKp.out.o7 e; omega
            have hn5 : ¬ 5 ≤ (n : Int) := fun e => by have := HKp.out.i5 (by omega); omega
            have hn5' : decide (5 ≤ (n : Int)) = false := decide_eq_false hn5
            have Hov' : Hid (t'.ov = false) := HOV.out.trans (by rw [hov]; rfl)
            rw [hov]
            have ck := HA5.out.cell 4 (.int .i64 (h 4 : Nat)) rfl
            have zk := HA5.out.frozen 4
            have hk12 : (h 4 : Nat) ≤ 12 := HLE.out 4
            go_upto_region 19 with fail
            generalize (w5.setCell ⟨B, 4, none⟩ (.int .i64 ((h 4 : Nat) + 1))) = w6 at HV6 HE6 HB6 ⊢
            clear ck zk hk12 HA5 HLE
            have hsr : clp (f).yo ≤ clp (f).tr := HKp.out.sr (by simp)
            have q := sure_any f w6
            rw [decide_eq_true hsr] at q
            have g0 : w6.cell? ⟨V, 0, none⟩ = some (.int .i64 (f).er) := heap_cell HV6.out 0
            have g1 : w6.cell? ⟨V, 1, none⟩ = some (.int .i64 (f).yo) := heap_cell HV6.out 1
            have g2 : w6.cell? ⟨V, 2, none⟩ = some (.int .i64 (f).te) := heap_cell HV6.out 2
            have g3 : w6.cell? ⟨V, 3, none⟩ = some (.int .i64 (f).tr) := heap_cell HV6.out 3
            go_wp2_with fail
            refine q.mono ?_
            rintro e9 w7 ⟨rfl, b7⟩
            have HE7 : Hid (Eds w0.heap.size w7 (tk x) b g B (n + 1) t' (Po.bump h 4)) := HE6.out.below b7
            have HB7 : Hid (Below w0.heap.size w0 w7) := HB6.out.trans (b7.mono HB6.out.size)
            clear q b7 g0 g1 g2 g3 hsr HE6 HB6 HV6
            go_upto_region 23 with fail
            refine quiet_tail 21 mixed (by kernel_rfl) ?_
            simp only [List.take_succ_cons, List.take_zero, List.drop_succ_cons, List.drop_zero]
            repeat (go_big_quiet_step (fail))
            refine wpQuiet_nil ?_
            have HE8 : Hid (Eds w0.heap.size w7.drew (tk x) b g B (n + 1) t' (Po.bump h 4)) := HE7.out.below ((Kg.Touch.drew [] w7).below (Nat.le_refl _) (fun k hk => by cases hk))
            have HB8 : Hid (Below w0.heap.size w0 w7.drew) := HB7.out.trans ((Kg.Touch.drew [] w7).below HB7.out.size (fun k hk => by cases hk))
            clear HE7 HB7
            go_wp2
            go_roundw
            case rel => exact ⟨n + 1, t', _, by go_num, by omega, by rw [Hov'.out], HE8, HB8⟩
            case measure => simp [intOf]; omega
        · as_aux_lemma =>
            have hov : t.ov = false := by
              cases e : t.ov with
              | false => rfl
              | true => have := HKp.out.o7 e; omega
            have hn5 : ¬ 5 ≤ (n : Int) := fun e => by have := HKp.out.i5 (by omega); omega
            have hn5' : decide (5 ≤ (n : Int)) = false := decide_eq_false hn5
            have Hov' : Hid (t'.ov = false) := HOV.out.trans (by rw [hov]; rfl)
            rw [hov]
            have ck := HA5.out.cell 5 (.int .i64 (h 5 : Nat)) rfl
            have zk := HA5.out.frozen 5
            have hk12 : (h 5 : Nat) ≤ 12 := HLE.out 5
            go_upto_region 19 with fail
            generalize (w5.setCell ⟨B, 5, none⟩ (.int .i64 ((h 5 : Nat) + 1))) = w6 at HV6 HE6 HB6 ⊢
            clear ck zk hk12 HA5 HLE
            have HE7 := HE6
            have HB7 := HB6
            clear HE6 HB6
            go_upto_region 23 with fail
            refine quiet_tail 21 mixed (by kernel_rfl) ?_
            simp only [List.take_succ_cons, List.take_zero, List.drop_succ_cons, List.drop_zero]
            repeat (go_big_quiet_step (fail))
            refine wpQuiet_nil ?_
            have HE8 : Hid (Eds w0.heap.size w6.drew (tk x) b g B (n + 1) t' (Po.bump h 5)) := HE7.out.below ((Kg.Touch.drew [] w6).below (Nat.le_refl _) (fun k hk => by cases hk))
            have HB8 : Hid (Below w0.heap.size w0 w6.drew) := HB7.out.trans ((Kg.Touch.drew [] w6).below HB7.out.size (fun k hk => by cases hk))
            clear HE7 HB7
            go_wp2
            go_roundw
            case rel => exact ⟨n + 1, t', _, by go_num, by omega, by rw [Hov'.out], HE8, HB8⟩
            case measure => simp [intOf]; omega
        · as_aux_lemma =>
            have hov : t.ov = false := by
              cases e : t.ov with
              | false => rfl
              | true => have := HKp.out.o7 e; omega
            have hn5 : ¬ 5 ≤ (n : Int) := fun e => by have := HKp.out.i5 (by omega); omega
            have hn5' : decide (5 ≤ (n : Int)) = false := decide_eq_false hn5
            have Hov' : Hid (t'.ov = false) := HOV.out.trans (by rw [hov]; rfl)
            rw [hov]
            have ck := HA5.out.cell 6 (.int .i64 (h 6 : Nat)) rfl
            have zk := HA5.out.frozen 6
            have hk12 : (h 6 : Nat) ≤ 12 := HLE.out 6
            go_upto_region 19 with fail
            generalize (w5.setCell ⟨B, 6, none⟩ (.int .i64 ((h 6 : Nat) + 1))) = w6 at HV6 HE6 HB6 ⊢
            clear ck zk hk12 HA5 HLE
            have HE7 := HE6
            have HB7 := HB6
            clear HE6 HB6
            have hf5 : (h 5 : Nat) ≠ 0 := HKp.out.fl rfl
            have c5 := HE7.out.had.cell 5 (.int .i64 (Po.bump h 6 5 : Nat)) rfl
            have e5 : Po.bump h 6 5 = h 5 := rfl
            rw [e5] at c5
            have hf5' : (((h 5 : Nat) : Int) == 0) = false := by simpa using hf5
            go_upto_region 23 with fail
            refine quiet_tail 21 mixed (by kernel_rfl) ?_
            simp only [List.take_succ_cons, List.take_zero, List.drop_succ_cons, List.drop_zero]
            repeat (go_big_quiet_step (fail))
            refine wpQuiet_nil ?_
            have HE8 : Hid (Eds w0.heap.size w6.drew (tk x) b g B (n + 1) t' (Po.bump h 6)) := HE7.out.below ((Kg.Touch.drew [] w6).below (Nat.le_refl _) (fun k hk => by cases hk))
            have HB8 : Hid (Below w0.heap.size w0 w6.drew) := HB7.out.trans ((Kg.Touch.drew [] w6).below HB7.out.size (fun k hk => by cases hk))
            clear HE7 HB7 c5 hf5 hf5'
            go_wp2
            go_roundw
            case rel => exact ⟨n + 1, t', _, by go_num, by omega, by rw [Hov'.out], HE8, HB8⟩
            case measure => simp [intOf]; omega
        · as_aux_lemma =>
            cases hov : t.ov with
            | true =>
              by_cases hn5 : 5 ≤ (n : Int)
              · have Hov' : Hid (t'.ov = true) := HOV.out.trans (by simp)
                have ck := HA5.out.cell 7 (.int .i64 (h 7 : Nat)) rfl
                have zk := HA5.out.frozen 7
                have hk12 : (h 7 : Nat) ≤ 12 := HLE.out 7
                go_upto_region 19 with fail
                generalize (w5.setCell ⟨B, 7, none⟩ (.int .i64 ((h 7 : Nat) + 1))) = w6 at HV6 HE6 HB6 ⊢
                clear ck zk hk12 HA5
                have c5 := HE6.out.had.cell 5 (.int .i64 (Po.bump h 7 5 : Nat)) rfl
                have e5 : Po.bump h 7 5 = h 5 := rfl
                rw [e5] at c5
                go_upto_region 23 with fail
                refine quiet_tail 21 mixed (by kernel_rfl) ?_
                simp only [List.take_succ_cons, List.take_zero, List.drop_succ_cons, List.drop_zero]
                repeat (go_big_quiet_step (fail))
                refine wpQuiet_nil ?_
                clear c5
                have HE8 : Hid (Eds w0.heap.size w6.drew (tk x) b g B (n + 1) t' (Po.bump h 7)) := HE6.out.below ((Kg.Touch.drew [] w6).below (Nat.le_refl w6.heap.size) (fun k hk => by cases hk))
                have HB8 : Hid (Below w0.heap.size w0 w6.drew) := HB6.out.trans (((Kg.Touch.drew [] w6).below (Nat.le_refl w6.heap.size) (fun k hk => by cases hk)).mono HB6.out.size)
                clear HE6 HB6
                go_wp2
                go_roundw
                case rel => exact ⟨n + 1, t', _, by go_num, by omega, by rw [Hov'.out], HE8, HB8⟩
                case measure => simp [intOf]; omega
              · have hn5' : decide (5 ≤ (n : Int)) = false := decide_eq_false hn5
                have Hov' : Hid (t'.ov = true) := HOV.out.trans (by simp)
                have ck := HA5.out.cell 7 (.int .i64 (h 7 : Nat)) rfl
                have zk := HA5.out.frozen 7
                have hk12 : (h 7 : Nat) ≤ 12 := HLE.out 7
                go_upto_region 19 with fail
                generalize (w5.setCell ⟨B, 7, none⟩ (.int .i64 ((h 7 : Nat) + 1))) = w6 at HV6 HE6 HB6 ⊢
                clear ck zk hk12 HA5
                have c5 := HE6.out.had.cell 5 (.int .i64 (Po.bump h 7 5 : Nat)) rfl
                have e5 : Po.bump h 7 5 = h 5 := rfl
                rw [e5] at c5
                go_upto_region 23 with fail
                refine quiet_tail 21 mixed (by kernel_rfl) ?_
                simp only [List.take_succ_cons, List.take_zero, List.drop_succ_cons, List.drop_zero]
                repeat (go_big_quiet_step (fail))
                refine wpQuiet_nil ?_
                clear c5
                have HE8 : Hid (Eds w0.heap.size w6.drew (tk x) b g B (n + 1) t' (Po.bump h 7)) := HE6.out.below ((Kg.Touch.drew [] w6).below (Nat.le_refl w6.heap.size) (fun k hk => by cases hk))
                have HB8 : Hid (Below w0.heap.size w0 w6.drew) := HB6.out.trans (((Kg.Touch.drew [] w6).below (Nat.le_refl w6.heap.size) (fun k hk => by cases hk)).mono HB6.out.size)
                clear HE6 HB6
                go_wp2
                go_roundw
                case rel => exact ⟨n + 1, t', _, by go_num, by omega, by rw [Hov'.out], HE8, HB8⟩
                case measure => simp [intOf]; omega
            | false =>
              have HOVF : Hid (t.ov = false) := hov
              by_cases hn5 : 5 ≤ (n : Int)
              · have Hov' : Hid (t'.ov = true) := HOV.out.trans (by simp)
                have ck := HA5.out.cell 7 (.int .i64 (h 7 : Nat)) rfl
                have zk := HA5.out.frozen 7
                have hk12 : (h 7 : Nat) ≤ 12 := HLE.out 7
                go_upto_region 19 with fail
                generalize (w5.setCell ⟨B, 7, none⟩ (.int .i64 ((h 7 : Nat) + 1))) = w6 at HV6 HE6 HB6 ⊢
                clear ck zk hk12 HA5
                have c5 := HE6.out.had.cell 5 (.int .i64 (Po.bump h 7 5 : Nat)) rfl
                have e5 : Po.bump h 7 5 = h 5 := rfl
                rw [e5] at c5
                by_cases h5 : (h 5 : Nat) = 0
                · have hen : clp (f).te ≤ (tk x).most := HKp.out.en rfl HOVF.out h5
                  have h5' : (((h 5 : Nat) : Int) == 0) = true := by simpa using h5
                  obtain ⟨M, hM⟩ : ∃ M, M = clim x.c x.base := ⟨_, rfl⟩
                  have hen2 : clp (f).te ≤ M := by rw [hM]; exact hen
                  have hvl : V < w6.heap.size := heap_lt HV6.out
                  have hxl : w.heap.size < w6.heap.size := by have := Hs0.out; have := HB6.out.size; omega
                  have hbl : B < w6.heap.size := heap_lt HE6.out.had
                  have hAx := HXA.out w6 HB6.out
                  go_upto_region 23 with fail
                  haveI hinh : Inhabited (Kg.Bel w6) := ⟨⟨w6, Below.refl _ _⟩⟩
                  have x5 : ∀ p : Kg.Bel w6, p.v.cell? ⟨B, 5, none⟩ = some (.int .i64 (h 5 : Nat)) := fun p => (p.h.cell (p := ⟨B, 5, none⟩) hbl).trans c5
                  have xt : ∀ p : Kg.Bel w6, p.v.cell? ⟨V, 2, none⟩ = some (.int .i64 (f).te) := fun p => (p.h.cell (p := ⟨V, 2, none⟩) hvl).trans (heap_cell HV6.out 2)
                  have a0 : ∀ p : Kg.Bel w6, p.v.cell? ⟨w.heap.size, 0, none⟩ = some (.int .i64 x.c.eden) := fun p => (p.h.cell (p := ⟨w.heap.size, 0, none⟩) hxl).trans (ask_cell hAx 0 _ rfl)
                  have a1 : ∀ p : Kg.Bel w6, p.v.cell? ⟨w.heap.size, 1, none⟩ = some (.int .i64 x.c.surv) := fun p => (p.h.cell (p := ⟨w.heap.size, 1, none⟩) hxl).trans (ask_cell hAx 1 _ rfl)
                  have a2 : ∀ p : Kg.Bel w6, p.v.cell? ⟨w.heap.size, 2, none⟩ = some (.int .i64 x.c.ten) := fun p => (p.h.cell (p := ⟨w.heap.size, 2, none⟩) hxl).trans (ask_cell hAx 2 _ rfl)
                  have a3 : ∀ p : Kg.Bel w6, p.v.cell? ⟨w.heap.size, 3, none⟩ = some (.int .i64 x.c.large) := fun p => (p.h.cell (p := ⟨w.heap.size, 3, none⟩) hxl).trans (ask_cell hAx 3 _ rfl)
                  have a4 : ∀ p : Kg.Bel w6, p.v.cell? ⟨w.heap.size, 4, none⟩ = some (.int .i64 x.c.floor) := fun p => (p.h.cell (p := ⟨w.heap.size, 4, none⟩) hxl).trans (ask_cell hAx 4 _ rfl)
                  have a5 : ∀ p : Kg.Bel w6, p.v.cell? ⟨w.heap.size, 5, none⟩ = some (.int .i64 x.c.num) := fun p => (p.h.cell (p := ⟨w.heap.size, 5, none⟩) hxl).trans (ask_cell hAx 5 _ rfl)
                  have a6 : ∀ p : Kg.Bel w6, p.v.cell? ⟨w.heap.size, 6, none⟩ = some (.int .i64 x.c.den) := fun p => (p.h.cell (p := ⟨w.heap.size, 6, none⟩) hxl).trans (ask_cell hAx 6 _ rfl)
                  have a7 : ∀ p : Kg.Bel w6, p.v.cell? ⟨w.heap.size, 7, none⟩ = some (.int .i64 x.c.target) := fun p => (p.h.cell (p := ⟨w.heap.size, 7, none⟩) hxl).trans (ask_cell hAx 7 _ rfl)
                  have a8 : ∀ p : Kg.Bel w6, p.v.cell? ⟨w.heap.size, 8, none⟩ = some (.int .i64 x.c.maxAge) := fun p => (p.h.cell (p := ⟨w.heap.size, 8, none⟩) hxl).trans (ask_cell hAx 8 _ rfl)
                  have a9 : ∀ p : Kg.Bel w6, p.v.cell? ⟨w.heap.size, 9, none⟩ = some (.int .i64 x.c.threads) := fun p => (p.h.cell (p := ⟨w.heap.size, 9, none⟩) hxl).trans (ask_cell hAx 9 _ rfl)
                  have a10 : ∀ p : Kg.Bel w6, p.v.cell? ⟨w.heap.size, 10, none⟩ = some (.int .i64 x.c.slots) := fun p => (p.h.cell (p := ⟨w.heap.size, 10, none⟩) hxl).trans (ask_cell hAx 10 _ rfl)
                  have a11 : ∀ p : Kg.Bel w6, p.v.cell? ⟨w.heap.size, 11, none⟩ = some (.int .i64 x.c.handles) := fun p => (p.h.cell (p := ⟨w.heap.size, 11, none⟩) hxl).trans (ask_cell hAx 11 _ rfl)
                  have a12 : ∀ p : Kg.Bel w6, p.v.cell? ⟨w.heap.size, 12, none⟩ = some (.int .i64 x.c.buffer) := fun p => (p.h.cell (p := ⟨w.heap.size, 12, none⟩) hxl).trans (ask_cell hAx 12 _ rfl)
                  have a13 : ∀ p : Kg.Bel w6, p.v.cell? ⟨w.heap.size, 13, none⟩ = some (.int .i64 x.c.workers) := fun p => (p.h.cell (p := ⟨w.heap.size, 13, none⟩) hxl).trans (ask_cell hAx 13 _ rfl)
                  have a14 : ∀ p : Kg.Bel w6, p.v.cell? ⟨w.heap.size, 14, none⟩ = some (.int .i64 x.base) := fun p => (p.h.cell (p := ⟨w.heap.size, 14, none⟩) hxl).trans (ask_cell hAx 14 _ rfl)
                  have HL : Hid (∀ p : Kg.Bel w6, Calls Try.prog 7 #[cv x.c, .int .i64 x.base] p.v fun e w' => e = .returned (.int .i64 M) ∧ Below p.v.heap.size p.v w') := fun p => by rw [hM]; exact plimit_yes HK.out.2 x.base p.v
                  clear hvl hxl hbl hAx hen c5 hM
                  by_cases ht : (f).te < 0
                  · have hm0 : 0 ≤ M := by have := clp_nn (f).te; omega
                    have hgt' : decide (M < 0) = false := decide_eq_false (by omega)
                    clear hen2
                    refine region_below mixed (by kernel_rfl) ?_
                    repeat (go_big_quiet_step (first | (go_at_call 7; exact calls_bel (HL.out _))))
                    refine wpQuiet_nil ?_
                    rintro w8 ⟨⟨w8, b8⟩, rfl⟩
                    clear x5 xt HL hinh a0 a1 a2 a3 a4 a5 a6 a7 a8 a9 a10 a11 a12 a13 a14
                    have HE8 : Hid (Eds w0.heap.size w8 (tk x) b g B (n + 1) t' (Po.bump h 7)) := HE6.out.below (b8)
                    have HB8 : Hid (Below w0.heap.size w0 w8) := HB6.out.trans ((b8).mono HB6.out.size)
                    clear HE6 HB6
                    go_wp2
                    go_roundw
                    case rel => exact ⟨n + 1, t', _, by go_num, by omega, by rw [Hov'.out], HE8, HB8⟩
                    case measure => simp [intOf]; omega
                  · have hm0 : (f).te ≤ M := by rw [clp_of (by omega)] at hen2; exact hen2
                    have hgt' : decide (M < (f).te) = false := decide_eq_false (by omega)
                    have ht0 : 0 ≤ (f).te := by omega
                    clear hen2
                    refine region_below mixed (by kernel_rfl) ?_
                    repeat (go_big_quiet_step (first | (go_at_call 7; exact calls_bel (HL.out _))))
                    refine wpQuiet_nil ?_
                    rintro w8 ⟨⟨w8, b8⟩, rfl⟩
                    clear x5 xt HL hinh a0 a1 a2 a3 a4 a5 a6 a7 a8 a9 a10 a11 a12 a13 a14
                    have HE8 : Hid (Eds w0.heap.size w8 (tk x) b g B (n + 1) t' (Po.bump h 7)) := HE6.out.below (b8)
                    have HB8 : Hid (Below w0.heap.size w0 w8) := HB6.out.trans ((b8).mono HB6.out.size)
                    clear HE6 HB6
                    go_wp2
                    go_roundw
                    case rel => exact ⟨n + 1, t', _, by go_num, by omega, by rw [Hov'.out], HE8, HB8⟩
                    case measure => simp [intOf]; omega
                · have h5' : (((h 5 : Nat) : Int) == 0) = false := by simpa using h5
                  go_upto_region 23 with fail
                  refine quiet_tail 21 mixed (by kernel_rfl) ?_
                  simp only [List.take_succ_cons, List.take_zero, List.drop_succ_cons, List.drop_zero]
                  repeat (go_big_quiet_step (fail))
                  refine wpQuiet_nil ?_
                  clear c5
                  have HE8 : Hid (Eds w0.heap.size w6.drew (tk x) b g B (n + 1) t' (Po.bump h 7)) := HE6.out.below ((Kg.Touch.drew [] w6).below (Nat.le_refl w6.heap.size) (fun k hk => by cases hk))
                  have HB8 : Hid (Below w0.heap.size w0 w6.drew) := HB6.out.trans (((Kg.Touch.drew [] w6).below (Nat.le_refl w6.heap.size) (fun k hk => by cases hk)).mono HB6.out.size)
                  clear HE6 HB6
                  go_wp2
                  go_roundw
                  case rel => exact ⟨n + 1, t', _, by go_num, by omega, by rw [Hov'.out], HE8, HB8⟩
                  case measure => simp [intOf]; omega
              · have hn5' : decide (5 ≤ (n : Int)) = false := decide_eq_false hn5
                have Hov' : Hid (t'.ov = true) := HOV.out.trans (by simp)
                have ck := HA5.out.cell 7 (.int .i64 (h 7 : Nat)) rfl
                have zk := HA5.out.frozen 7
                have hk12 : (h 7 : Nat) ≤ 12 := HLE.out 7
                go_upto_region 19 with fail
                generalize (w5.setCell ⟨B, 7, none⟩ (.int .i64 ((h 7 : Nat) + 1))) = w6 at HV6 HE6 HB6 ⊢
                clear ck zk hk12 HA5
                have c5 := HE6.out.had.cell 5 (.int .i64 (Po.bump h 7 5 : Nat)) rfl
                have e5 : Po.bump h 7 5 = h 5 := rfl
                rw [e5] at c5
                by_cases h5 : (h 5 : Nat) = 0
                · have hen : clp (f).te ≤ (tk x).most := HKp.out.en rfl HOVF.out h5
                  have h5' : (((h 5 : Nat) : Int) == 0) = true := by simpa using h5
                  obtain ⟨M, hM⟩ : ∃ M, M = clim x.c x.base := ⟨_, rfl⟩
                  have hen2 : clp (f).te ≤ M := by rw [hM]; exact hen
                  have hvl : V < w6.heap.size := heap_lt HV6.out
                  have hxl : w.heap.size < w6.heap.size := by have := Hs0.out; have := HB6.out.size; omega
                  have hbl : B < w6.heap.size := heap_lt HE6.out.had
                  have hAx := HXA.out w6 HB6.out
                  go_upto_region 23 with fail
                  haveI hinh : Inhabited (Kg.Bel w6) := ⟨⟨w6, Below.refl _ _⟩⟩
                  have x5 : ∀ p : Kg.Bel w6, p.v.cell? ⟨B, 5, none⟩ = some (.int .i64 (h 5 : Nat)) := fun p => (p.h.cell (p := ⟨B, 5, none⟩) hbl).trans c5
                  have xt : ∀ p : Kg.Bel w6, p.v.cell? ⟨V, 2, none⟩ = some (.int .i64 (f).te) := fun p => (p.h.cell (p := ⟨V, 2, none⟩) hvl).trans (heap_cell HV6.out 2)
                  have a0 : ∀ p : Kg.Bel w6, p.v.cell? ⟨w.heap.size, 0, none⟩ = some (.int .i64 x.c.eden) := fun p => (p.h.cell (p := ⟨w.heap.size, 0, none⟩) hxl).trans (ask_cell hAx 0 _ rfl)
                  have a1 : ∀ p : Kg.Bel w6, p.v.cell? ⟨w.heap.size, 1, none⟩ = some (.int .i64 x.c.surv) := fun p => (p.h.cell (p := ⟨w.heap.size, 1, none⟩) hxl).trans (ask_cell hAx 1 _ rfl)
                  have a2 : ∀ p : Kg.Bel w6, p.v.cell? ⟨w.heap.size, 2, none⟩ = some (.int .i64 x.c.ten) := fun p => (p.h.cell (p := ⟨w.heap.size, 2, none⟩) hxl).trans (ask_cell hAx 2 _ rfl)
                  have a3 : ∀ p : Kg.Bel w6, p.v.cell? ⟨w.heap.size, 3, none⟩ = some (.int .i64 x.c.large) := fun p => (p.h.cell (p := ⟨w.heap.size, 3, none⟩) hxl).trans (ask_cell hAx 3 _ rfl)
                  have a4 : ∀ p : Kg.Bel w6, p.v.cell? ⟨w.heap.size, 4, none⟩ = some (.int .i64 x.c.floor) := fun p => (p.h.cell (p := ⟨w.heap.size, 4, none⟩) hxl).trans (ask_cell hAx 4 _ rfl)
                  have a5 : ∀ p : Kg.Bel w6, p.v.cell? ⟨w.heap.size, 5, none⟩ = some (.int .i64 x.c.num) := fun p => (p.h.cell (p := ⟨w.heap.size, 5, none⟩) hxl).trans (ask_cell hAx 5 _ rfl)
                  have a6 : ∀ p : Kg.Bel w6, p.v.cell? ⟨w.heap.size, 6, none⟩ = some (.int .i64 x.c.den) := fun p => (p.h.cell (p := ⟨w.heap.size, 6, none⟩) hxl).trans (ask_cell hAx 6 _ rfl)
                  have a7 : ∀ p : Kg.Bel w6, p.v.cell? ⟨w.heap.size, 7, none⟩ = some (.int .i64 x.c.target) := fun p => (p.h.cell (p := ⟨w.heap.size, 7, none⟩) hxl).trans (ask_cell hAx 7 _ rfl)
                  have a8 : ∀ p : Kg.Bel w6, p.v.cell? ⟨w.heap.size, 8, none⟩ = some (.int .i64 x.c.maxAge) := fun p => (p.h.cell (p := ⟨w.heap.size, 8, none⟩) hxl).trans (ask_cell hAx 8 _ rfl)
                  have a9 : ∀ p : Kg.Bel w6, p.v.cell? ⟨w.heap.size, 9, none⟩ = some (.int .i64 x.c.threads) := fun p => (p.h.cell (p := ⟨w.heap.size, 9, none⟩) hxl).trans (ask_cell hAx 9 _ rfl)
                  have a10 : ∀ p : Kg.Bel w6, p.v.cell? ⟨w.heap.size, 10, none⟩ = some (.int .i64 x.c.slots) := fun p => (p.h.cell (p := ⟨w.heap.size, 10, none⟩) hxl).trans (ask_cell hAx 10 _ rfl)
                  have a11 : ∀ p : Kg.Bel w6, p.v.cell? ⟨w.heap.size, 11, none⟩ = some (.int .i64 x.c.handles) := fun p => (p.h.cell (p := ⟨w.heap.size, 11, none⟩) hxl).trans (ask_cell hAx 11 _ rfl)
                  have a12 : ∀ p : Kg.Bel w6, p.v.cell? ⟨w.heap.size, 12, none⟩ = some (.int .i64 x.c.buffer) := fun p => (p.h.cell (p := ⟨w.heap.size, 12, none⟩) hxl).trans (ask_cell hAx 12 _ rfl)
                  have a13 : ∀ p : Kg.Bel w6, p.v.cell? ⟨w.heap.size, 13, none⟩ = some (.int .i64 x.c.workers) := fun p => (p.h.cell (p := ⟨w.heap.size, 13, none⟩) hxl).trans (ask_cell hAx 13 _ rfl)
                  have a14 : ∀ p : Kg.Bel w6, p.v.cell? ⟨w.heap.size, 14, none⟩ = some (.int .i64 x.base) := fun p => (p.h.cell (p := ⟨w.heap.size, 14, none⟩) hxl).trans (ask_cell hAx 14 _ rfl)
                  have HL : Hid (∀ p : Kg.Bel w6, Calls Try.prog 7 #[cv x.c, .int .i64 x.base] p.v fun e w' => e = .returned (.int .i64 M) ∧ Below p.v.heap.size p.v w') := fun p => by rw [hM]; exact plimit_yes HK.out.2 x.base p.v
                  clear hvl hxl hbl hAx hen c5 hM
                  by_cases ht : (f).te < 0
                  · have hm0 : 0 ≤ M := by have := clp_nn (f).te; omega
                    have hgt' : decide (M < 0) = false := decide_eq_false (by omega)
                    clear hen2
                    refine region_below mixed (by kernel_rfl) ?_
                    repeat (go_big_quiet_step (first | (go_at_call 7; exact calls_bel (HL.out _))))
                    refine wpQuiet_nil ?_
                    rintro w8 ⟨⟨w8, b8⟩, rfl⟩
                    clear x5 xt HL hinh a0 a1 a2 a3 a4 a5 a6 a7 a8 a9 a10 a11 a12 a13 a14
                    have HE8 : Hid (Eds w0.heap.size w8 (tk x) b g B (n + 1) t' (Po.bump h 7)) := HE6.out.below (b8)
                    have HB8 : Hid (Below w0.heap.size w0 w8) := HB6.out.trans ((b8).mono HB6.out.size)
                    clear HE6 HB6
                    go_wp2
                    go_roundw
                    case rel => exact ⟨n + 1, t', _, by go_num, by omega, by rw [Hov'.out], HE8, HB8⟩
                    case measure => simp [intOf]; omega
                  · have hm0 : (f).te ≤ M := by rw [clp_of (by omega)] at hen2; exact hen2
                    have hgt' : decide (M < (f).te) = false := decide_eq_false (by omega)
                    have ht0 : 0 ≤ (f).te := by omega
                    clear hen2
                    refine region_below mixed (by kernel_rfl) ?_
                    repeat (go_big_quiet_step (first | (go_at_call 7; exact calls_bel (HL.out _))))
                    refine wpQuiet_nil ?_
                    rintro w8 ⟨⟨w8, b8⟩, rfl⟩
                    clear x5 xt HL hinh a0 a1 a2 a3 a4 a5 a6 a7 a8 a9 a10 a11 a12 a13 a14
                    have HE8 : Hid (Eds w0.heap.size w8 (tk x) b g B (n + 1) t' (Po.bump h 7)) := HE6.out.below (b8)
                    have HB8 : Hid (Below w0.heap.size w0 w8) := HB6.out.trans ((b8).mono HB6.out.size)
                    clear HE6 HB6
                    go_wp2
                    go_roundw
                    case rel => exact ⟨n + 1, t', _, by go_num, by omega, by rw [Hov'.out], HE8, HB8⟩
                    case measure => simp [intOf]; omega
                · have h5' : (((h 5 : Nat) : Int) == 0) = false := by simpa using h5
                  go_upto_region 23 with fail
                  refine quiet_tail 21 mixed (by kernel_rfl) ?_
                  simp only [List.take_succ_cons, List.take_zero, List.drop_succ_cons, List.drop_zero]
                  repeat (go_big_quiet_step (fail))
                  refine wpQuiet_nil ?_
                  clear c5
                  have HE8 : Hid (Eds w0.heap.size w6.drew (tk x) b g B (n + 1) t' (Po.bump h 7)) := HE6.out.below ((Kg.Touch.drew [] w6).below (Nat.le_refl w6.heap.size) (fun k hk => by cases hk))
                  have HB8 : Hid (Below w0.heap.size w0 w6.drew) := HB6.out.trans (((Kg.Touch.drew [] w6).below (Nat.le_refl w6.heap.size) (fun k hk => by cases hk)).mono HB6.out.size)
                  clear HE6 HB6
                  go_wp2
                  go_roundw
                  case rel => exact ⟨n + 1, t', _, by go_num, by omega, by rw [Hov'.out], HE8, HB8⟩
                  case measure => simp [intOf]; omega
      · have hlI : ¬ (n : Int) < x.L.length := by omega
        have hxl : w.heap.size < wr.heap.size := by have := Hs0.out; have := HBr.out.size; omega
        have kX' : (wr.alloc (.cells #[.int .i64 0, .int .i64 0, .int .i64 0, .int .i64 0] 40)).cell? ⟨w.heap.size, 17, none⟩ = some (.slice x.va x.L.length x.vc) := by
          rw [← kX]
          simp [World.cell?, Below.heap_alloc _ _ _ hxl]
        clear hxl
        go_upto_region 15 with fail
        obtain ⟨f, hf⟩ : ∃ f : Vw, f = ⟨0, 0, 0, 0⟩ := ⟨_, rfl⟩
        have hw9 : wr.alloc (.cells #[.int .i64 0, .int .i64 0, .int .i64 0, .int .i64 0] 40) = wr.alloc (vbox f) := by rw [hf]
        rw [hw9]
        clear kX kX' hw9 hf
        have hu0 := HE.out.ex
        obtain ⟨u, hu1, hu2, hu3⟩ := hu0
        have hlt9 : ∀ q, q ∈ Fq b u g → q < wr.heap.size := (stb_pt _ _ _ _ _ _).lt wr hu1
        have hb0 : Below wr.heap.size wr (wr.alloc (vbox f)) := Below.alloc (Below.refl _ _) (Nat.le_refl _) _
        have HE1 : Hid (Eds w0.heap.size (wr.alloc (vbox f)) (tk x) b g B n t h) := HE.out.below hb0
        have HU1 : Hid (Pt (wr.alloc (vbox f)) w0.heap.size b u g (tk x) t ∧ B ∉ Fq b u g ∧ ∀ q, q ∈ Fq b u g → w0.heap.size ≤ q) := ⟨hu1.below hb0, hu2, hu3⟩
        have HV1 : Hid ((wr.alloc (vbox f)).heap[wr.heap.size]? = some (.cells #[.int .i64 (f).er, .int .i64 (f).yo, .int .i64 (f).te, .int .i64 (f).tr] 40 (0, 0))) := heap_alloc_new wr _
        have HBa : Hid (Below w0.heap.size w0 (wr.alloc (vbox f))) := HBr.out.trans (hb0.mono HBr.out.size)
        have HVn : Hid (wr.heap.size ∉ Fq b u g ∧ wr.heap.size ≠ B) := ⟨fun hm => by have := hlt9 _ hm; omega, fun e => by have := heap_lt HE.out.had; omega⟩
        clear hu1 hu2 hu3 hlt9 hb0 HE HBr
        generalize (wr.alloc (vbox f)) = W1 at HE1 HU1 HV1 HBa ⊢
        generalize wr.heap.size = V at HV1 HVn ⊢
        have hs1 := (HE1.out.j.next f).1.s1
        obtain ⟨sn, hsn⟩ : ∃ sn : Nat, ((tk x).next t f).1 = sn := ⟨(((tk x).next t f).1).toNat, by omega⟩
        rw [hsn] at hs1
        have q := pnext_any HU1.out.1 (by have := (Go12.mk ⟨_, _, HE1.out.j⟩ : Go12 (tk x) t).len; omega) HK.out.1 HE1.out.j.oc f
        rw [hsn] at q
        have Hsn : Hid (((tk x).next t f).1 = sn) := hsn
        have g0 : W1.cell? ⟨V, 0, none⟩ = some (.int .i64 (f).er) := heap_cell HV1.out 0
        have g1 : W1.cell? ⟨V, 1, none⟩ = some (.int .i64 (f).yo) := heap_cell HV1.out 1
        have g2 : W1.cell? ⟨V, 2, none⟩ = some (.int .i64 (f).te) := heap_cell HV1.out 2
        have g3 : W1.cell? ⟨V, 3, none⟩ = some (.int .i64 (f).tr) := heap_cell HV1.out 3
        clear hsn
        go_wp2_with fail
        refine q.mono ?_
        rintro e9 w5 ⟨rfl, hG⟩
        obtain ⟨hA, hE2, b5, b6, kp⟩ := HE1.out.step HU1.out f hG sn Hsn.out HBa.out.size
        have HV5 : Hid (w5.heap[V]? = some (.cells #[.int .i64 (f).er, .int .i64 (f).yo, .int .i64 (f).te, .int .i64 (f).tr] 40 (0, 0))) := by
          obtain ⟨u', r1, r2, r3⟩ := hG.ex
          exact (r2.block V (heap_lt HV1.out) HVn.out.1).trans HV1.out
        have HV6 : Hid ((w5.setCell ⟨B, sn, none⟩ (.int .i64 ((h sn : Nat) + 1))).heap[V]? = some (.cells #[.int .i64 (f).er, .int .i64 (f).yo, .int .i64 (f).te, .int .i64 (f).tr] 40 (0, 0))) := by
          rw [(Kg.Touch.setCell (F := [B]) w5 ⟨B, sn, none⟩ (.int .i64 ((h sn : Nat) + 1)) (by simp)).block V (heap_lt HV5.out) (by simpa using HVn.out.2)]
          exact HV5.out
        have HA5 : Hid (Had w5 B h) := hA
        have HE6 : Hid (Eds w0.heap.size (w5.setCell ⟨B, sn, none⟩ (.int .i64 ((h sn : Nat) + 1))) (tk x) b g B (n + 1) ((tk x).next t f).2 (Po.bump h sn)) := hE2
        have HB6 : Hid (Below w0.heap.size w0 (w5.setCell ⟨B, sn, none⟩ (.int .i64 ((h sn : Nat) + 1)))) := HBa.out.trans b6
        have HKp : Hid (Kp (tk x) t n h f sn) := kp
        have HOV : Hid (((tk x).next t f).2.ov = (t.ov || decide ((sn : Int) = 7))) := by
          have h9 := next_ov (tk x) t f
          rw [Hsn.out] at h9
          exact h9
        have HLE : Hid (∀ j, h j ≤ 12) := fun j => Nat.le_trans (HE1.out.le j) (by omega)
        generalize ((tk x).next t f).2 = t' at HE6 HOV
        clear q hG hA hE2 b5 b6 kp HE1 HU1 HV1 HBa HVn Hsn g0 g1 g2 g3 HV5
        have hcase : sn = 1 ∨ sn = 2 ∨ sn = 3 ∨ sn = 4 ∨ sn = 5 ∨ sn = 6 ∨ sn = 7 := by omega
        clear hs1
        rcases hcase with rfl | rfl | rfl | rfl | rfl | rfl | rfl
        · as_aux_lemma =>
            have hov : t.ov = false := by
              cases e : t.ov with
              | false => rfl
              | true => have := HKp.out.o7 e; omega
            have hn5 : ¬ 5 ≤ (n : Int) := fun e => by have := HKp.out.i5 (by omega); omega
            have hn5' : decide (5 ≤ (n : Int)) = false := decide_eq_false hn5
            have Hov' : Hid (t'.ov = false) := HOV.out.trans (by rw [hov]; rfl)
            rw [hov]
            have ck := HA5.out.cell 1 (.int .i64 (h 1 : Nat)) rfl
            have zk := HA5.out.frozen 1
            have hk12 : (h 1 : Nat) ≤ 12 := HLE.out 1
            go_upto_region 19 with fail
            generalize (w5.setCell ⟨B, 1, none⟩ (.int .i64 ((h 1 : Nat) + 1))) = w6 at HV6 HE6 HB6 ⊢
            clear ck zk hk12 HA5 HLE
            have HE7 := HE6
            have HB7 := HB6
            clear HE6 HB6
            go_upto_region 23 with fail
            refine quiet_tail 21 mixed (by kernel_rfl) ?_
            simp only [List.take_succ_cons, List.take_zero, List.drop_succ_cons, List.drop_zero]
            repeat (go_big_quiet_step (fail))
            refine wpQuiet_nil ?_
            have HE8 : Hid (Eds w0.heap.size w6.drew (tk x) b g B (n + 1) t' (Po.bump h 1)) := HE7.out.below ((Kg.Touch.drew [] w6).below (Nat.le_refl _) (fun k hk => by cases hk))
            have HB8 : Hid (Below w0.heap.size w0 w6.drew) := HB7.out.trans ((Kg.Touch.drew [] w6).below HB7.out.size (fun k hk => by cases hk))
            clear HE7 HB7
            go_wp2
            go_roundw
            case rel => exact ⟨n + 1, t', _, by go_num, by omega, by rw [Hov'.out], HE8, HB8⟩
            case measure => simp [intOf]; omega
        · as_aux_lemma =>
            have hov : t.ov = false := by
              cases e : t.ov with
              | false => rfl
              | true => have := HKp.out.o7 e; omega
            have hn5 : ¬ 5 ≤ (n : Int) := fun e => by have := HKp.out.i5 (by omega); omega
            have hn5' : decide (5 ≤ (n : Int)) = false := decide_eq_false hn5
            have Hov' : Hid (t'.ov = false) := HOV.out.trans (by rw [hov]; rfl)
            rw [hov]
            have ck := HA5.out.cell 2 (.int .i64 (h 2 : Nat)) rfl
            have zk := HA5.out.frozen 2
            have hk12 : (h 2 : Nat) ≤ 12 := HLE.out 2
            go_upto_region 19 with fail
            generalize (w5.setCell ⟨B, 2, none⟩ (.int .i64 ((h 2 : Nat) + 1))) = w6 at HV6 HE6 HB6 ⊢
            clear ck zk hk12 HA5 HLE
            have HE7 := HE6
            have HB7 := HB6
            clear HE6 HB6
            go_upto_region 23 with fail
            refine quiet_tail 21 mixed (by kernel_rfl) ?_
            simp only [List.take_succ_cons, List.take_zero, List.drop_succ_cons, List.drop_zero]
            repeat (go_big_quiet_step (fail))
            refine wpQuiet_nil ?_
            have HE8 : Hid (Eds w0.heap.size w6.drew (tk x) b g B (n + 1) t' (Po.bump h 2)) := HE7.out.below ((Kg.Touch.drew [] w6).below (Nat.le_refl _) (fun k hk => by cases hk))
            have HB8 : Hid (Below w0.heap.size w0 w6.drew) := HB7.out.trans ((Kg.Touch.drew [] w6).below HB7.out.size (fun k hk => by cases hk))
            clear HE7 HB7
            go_wp2
            go_roundw
            case rel => exact ⟨n + 1, t', _, by go_num, by omega, by rw [Hov'.out], HE8, HB8⟩
            case measure => simp [intOf]; omega
        · as_aux_lemma =>
            have hov : t.ov = false := by
              cases e : t.ov with
              | false => rfl
              | true => have := HKp.out.o7 e; omega
            have hn5 : ¬ 5 ≤ (n : Int) := fun e => by have := HKp.out.i5 (by omega); omega
            have hn5' : decide (5 ≤ (n : Int)) = false := decide_eq_false hn5
            have Hov' : Hid (t'.ov = false) := HOV.out.trans (by rw [hov]; rfl)
            rw [hov]
            have ck := HA5.out.cell 3 (.int .i64 (h 3 : Nat)) rfl
            have zk := HA5.out.frozen 3
            have hk12 : (h 3 : Nat) ≤ 12 := HLE.out 3
            go_upto_region 19 with fail
            generalize (w5.setCell ⟨B, 3, none⟩ (.int .i64 ((h 3 : Nat) + 1))) = w6 at HV6 HE6 HB6 ⊢
            clear ck zk hk12 HA5 HLE
            have hsr : clp (f).yo ≤ clp (f).tr := HKp.out.sr (by simp)
            have q := sure_any f w6
            rw [decide_eq_true hsr] at q
            have g0 : w6.cell? ⟨V, 0, none⟩ = some (.int .i64 (f).er) := heap_cell HV6.out 0
            have g1 : w6.cell? ⟨V, 1, none⟩ = some (.int .i64 (f).yo) := heap_cell HV6.out 1
            have g2 : w6.cell? ⟨V, 2, none⟩ = some (.int .i64 (f).te) := heap_cell HV6.out 2
            have g3 : w6.cell? ⟨V, 3, none⟩ = some (.int .i64 (f).tr) := heap_cell HV6.out 3
            go_wp2_with fail
            refine q.mono ?_
            rintro e9 w7 ⟨rfl, b7⟩
            have HE7 : Hid (Eds w0.heap.size w7 (tk x) b g B (n + 1) t' (Po.bump h 3)) := HE6.out.below b7
            have HB7 : Hid (Below w0.heap.size w0 w7) := HB6.out.trans (b7.mono HB6.out.size)
            clear q b7 g0 g1 g2 g3 hsr HE6 HB6 HV6
            go_upto_region 23 with fail
            refine quiet_tail 21 mixed (by kernel_rfl) ?_
            simp only [List.take_succ_cons, List.take_zero, List.drop_succ_cons, List.drop_zero]
            repeat (go_big_quiet_step (fail))
            refine wpQuiet_nil ?_
            have HE8 : Hid (Eds w0.heap.size w7.drew (tk x) b g B (n + 1) t' (Po.bump h 3)) := HE7.out.below ((Kg.Touch.drew [] w7).below (Nat.le_refl _) (fun k hk => by cases hk))
            have HB8 : Hid (Below w0.heap.size w0 w7.drew) := HB7.out.trans ((Kg.Touch.drew [] w7).below HB7.out.size (fun k hk => by cases hk))
            clear HE7 HB7
            go_wp2
            go_roundw
            case rel => exact ⟨n + 1, t', _, by go_num, by omega, by rw [Hov'.out], HE8, HB8⟩
            case measure => simp [intOf]; omega
        · as_aux_lemma =>
            have hov : t.ov = false := by
              cases e : t.ov with
              | false => rfl
              | true => have := HKp.out.o7 e; omega
            have hn5 : ¬ 5 ≤ (n : Int) := fun e => by have := HKp.out.i5 (by omega); omega
            have hn5' : decide (5 ≤ (n : Int)) = false := decide_eq_false hn5
            have Hov' : Hid (t'.ov = false) := HOV.out.trans (by rw [hov]; rfl)
            rw [hov]
            have ck := HA5.out.cell 4 (.int .i64 (h 4 : Nat)) rfl
            have zk := HA5.out.frozen 4
            have hk12 : (h 4 : Nat) ≤ 12 := HLE.out 4
            go_upto_region 19 with fail
            generalize (w5.setCell ⟨B, 4, none⟩ (.int .i64 ((h 4 : Nat) + 1))) = w6 at HV6 HE6 HB6 ⊢
            clear ck zk hk12 HA5 HLE
            have hsr : clp (f).yo ≤ clp (f).tr := HKp.out.sr (by simp)
            have q := sure_any f w6
            rw [decide_eq_true hsr] at q
            have g0 : w6.cell? ⟨V, 0, none⟩ = some (.int .i64 (f).er) := heap_cell HV6.out 0
            have g1 : w6.cell? ⟨V, 1, none⟩ = some (.int .i64 (f).yo) := heap_cell HV6.out 1
            have g2 : w6.cell? ⟨V, 2, none⟩ = some (.int .i64 (f).te) := heap_cell HV6.out 2
            have g3 : w6.cell? ⟨V, 3, none⟩ = some (.int .i64 (f).tr) := heap_cell HV6.out 3
            go_wp2_with fail
            refine q.mono ?_
            rintro e9 w7 ⟨rfl, b7⟩
            have HE7 : Hid (Eds w0.heap.size w7 (tk x) b g B (n + 1) t' (Po.bump h 4)) := HE6.out.below b7
            have HB7 : Hid (Below w0.heap.size w0 w7) := HB6.out.trans (b7.mono HB6.out.size)
            clear q b7 g0 g1 g2 g3 hsr HE6 HB6 HV6
            go_upto_region 23 with fail
            refine quiet_tail 21 mixed (by kernel_rfl) ?_
            simp only [List.take_succ_cons, List.take_zero, List.drop_succ_cons, List.drop_zero]
            repeat (go_big_quiet_step (fail))
            refine wpQuiet_nil ?_
            have HE8 : Hid (Eds w0.heap.size w7.drew (tk x) b g B (n + 1) t' (Po.bump h 4)) := HE7.out.below ((Kg.Touch.drew [] w7).below (Nat.le_refl _) (fun k hk => by cases hk))
            have HB8 : Hid (Below w0.heap.size w0 w7.drew) := HB7.out.trans ((Kg.Touch.drew [] w7).below HB7.out.size (fun k hk => by cases hk))
            clear HE7 HB7
            go_wp2
            go_roundw
            case rel => exact ⟨n + 1, t', _, by go_num, by omega, by rw [Hov'.out], HE8, HB8⟩
            case measure => simp [intOf]; omega
        · as_aux_lemma =>
            have hov : t.ov = false := by
              cases e : t.ov with
              | false => rfl
              | true => have := HKp.out.o7 e; omega
            have hn5 : ¬ 5 ≤ (n : Int) := fun e => by have := HKp.out.i5 (by omega); omega
            have hn5' : decide (5 ≤ (n : Int)) = false := decide_eq_false hn5
            have Hov' : Hid (t'.ov = false) := HOV.out.trans (by rw [hov]; rfl)
            rw [hov]
            have ck := HA5.out.cell 5 (.int .i64 (h 5 : Nat)) rfl
            have zk := HA5.out.frozen 5
            have hk12 : (h 5 : Nat) ≤ 12 := HLE.out 5
            go_upto_region 19 with fail
            generalize (w5.setCell ⟨B, 5, none⟩ (.int .i64 ((h 5 : Nat) + 1))) = w6 at HV6 HE6 HB6 ⊢
            clear ck zk hk12 HA5 HLE
            have HE7 := HE6
            have HB7 := HB6
            clear HE6 HB6
            go_upto_region 23 with fail
            refine quiet_tail 21 mixed (by kernel_rfl) ?_
            simp only [List.take_succ_cons, List.take_zero, List.drop_succ_cons, List.drop_zero]
            repeat (go_big_quiet_step (fail))
            refine wpQuiet_nil ?_
            have HE8 : Hid (Eds w0.heap.size w6.drew (tk x) b g B (n + 1) t' (Po.bump h 5)) := HE7.out.below ((Kg.Touch.drew [] w6).below (Nat.le_refl _) (fun k hk => by cases hk))
            have HB8 : Hid (Below w0.heap.size w0 w6.drew) := HB7.out.trans ((Kg.Touch.drew [] w6).below HB7.out.size (fun k hk => by cases hk))
            clear HE7 HB7
            go_wp2
            go_roundw
            case rel => exact ⟨n + 1, t', _, by go_num, by omega, by rw [Hov'.out], HE8, HB8⟩
            case measure => simp [intOf]; omega
        · as_aux_lemma =>
            have hov : t.ov = false := by
              cases e : t.ov with
              | false => rfl
              | true => have := HKp.out.o7 e; omega
            have hn5 : ¬ 5 ≤ (n : Int) := fun e => by have := HKp.out.i5 (by omega); omega
            have hn5' : decide (5 ≤ (n : Int)) = false := decide_eq_false hn5
            have Hov' : Hid (t'.ov = false) := HOV.out.trans (by rw [hov]; rfl)
            rw [hov]
            have ck := HA5.out.cell 6 (.int .i64 (h 6 : Nat)) rfl
            have zk := HA5.out.frozen 6
            have hk12 : (h 6 : Nat) ≤ 12 := HLE.out 6
            go_upto_region 19 with fail
            generalize (w5.setCell ⟨B, 6, none⟩ (.int .i64 ((h 6 : Nat) + 1))) = w6 at HV6 HE6 HB6 ⊢
            clear ck zk hk12 HA5 HLE
            have HE7 := HE6
            have HB7 := HB6
            clear HE6 HB6
            have hf5 : (h 5 : Nat) ≠ 0 := HKp.out.fl rfl
            have c5 := HE7.out.had.cell 5 (.int .i64 (Po.bump h 6 5 : Nat)) rfl
            have e5 : Po.bump h 6 5 = h 5 := rfl
            rw [e5] at c5
            have hf5' : (((h 5 : Nat) : Int) == 0) = false := by simpa using hf5
            go_upto_region 23 with fail
            refine quiet_tail 21 mixed (by kernel_rfl) ?_
            simp only [List.take_succ_cons, List.take_zero, List.drop_succ_cons, List.drop_zero]
            repeat (go_big_quiet_step (fail))
            refine wpQuiet_nil ?_
            have HE8 : Hid (Eds w0.heap.size w6.drew (tk x) b g B (n + 1) t' (Po.bump h 6)) := HE7.out.below ((Kg.Touch.drew [] w6).below (Nat.le_refl _) (fun k hk => by cases hk))
            have HB8 : Hid (Below w0.heap.size w0 w6.drew) := HB7.out.trans ((Kg.Touch.drew [] w6).below HB7.out.size (fun k hk => by cases hk))
            clear HE7 HB7 c5 hf5 hf5'
            go_wp2
            go_roundw
            case rel => exact ⟨n + 1, t', _, by go_num, by omega, by rw [Hov'.out], HE8, HB8⟩
            case measure => simp [intOf]; omega
        · as_aux_lemma =>
            cases hov : t.ov with
            | true =>
              by_cases hn5 : 5 ≤ (n : Int)
              · have Hov' : Hid (t'.ov = true) := HOV.out.trans (by simp)
                have ck := HA5.out.cell 7 (.int .i64 (h 7 : Nat)) rfl
                have zk := HA5.out.frozen 7
                have hk12 : (h 7 : Nat) ≤ 12 := HLE.out 7
                go_upto_region 19 with fail
                generalize (w5.setCell ⟨B, 7, none⟩ (.int .i64 ((h 7 : Nat) + 1))) = w6 at HV6 HE6 HB6 ⊢
                clear ck zk hk12 HA5
                have c5 := HE6.out.had.cell 5 (.int .i64 (Po.bump h 7 5 : Nat)) rfl
                have e5 : Po.bump h 7 5 = h 5 := rfl
                rw [e5] at c5
                go_upto_region 23 with fail
                refine quiet_tail 21 mixed (by kernel_rfl) ?_
                simp only [List.take_succ_cons, List.take_zero, List.drop_succ_cons, List.drop_zero]
                repeat (go_big_quiet_step (fail))
                refine wpQuiet_nil ?_
                clear c5
                have HE8 : Hid (Eds w0.heap.size w6.drew (tk x) b g B (n + 1) t' (Po.bump h 7)) := HE6.out.below ((Kg.Touch.drew [] w6).below (Nat.le_refl w6.heap.size) (fun k hk => by cases hk))
                have HB8 : Hid (Below w0.heap.size w0 w6.drew) := HB6.out.trans (((Kg.Touch.drew [] w6).below (Nat.le_refl w6.heap.size) (fun k hk => by cases hk)).mono HB6.out.size)
                clear HE6 HB6
                go_wp2
                go_roundw
                case rel => exact ⟨n + 1, t', _, by go_num, by omega, by rw [Hov'.out], HE8, HB8⟩
                case measure => simp [intOf]; omega
              · have hn5' : decide (5 ≤ (n : Int)) = false := decide_eq_false hn5
                have Hov' : Hid (t'.ov = true) := HOV.out.trans (by simp)
                have ck := HA5.out.cell 7 (.int .i64 (h 7 : Nat)) rfl
                have zk := HA5.out.frozen 7
                have hk12 : (h 7 : Nat) ≤ 12 := HLE.out 7
                go_upto_region 19 with fail
                generalize (w5.setCell ⟨B, 7, none⟩ (.int .i64 ((h 7 : Nat) + 1))) = w6 at HV6 HE6 HB6 ⊢
                clear ck zk hk12 HA5
                have c5 := HE6.out.had.cell 5 (.int .i64 (Po.bump h 7 5 : Nat)) rfl
                have e5 : Po.bump h 7 5 = h 5 := rfl
                rw [e5] at c5
                go_upto_region 23 with fail
                refine quiet_tail 21 mixed (by kernel_rfl) ?_
                simp only [List.take_succ_cons, List.take_zero, List.drop_succ_cons, List.drop_zero]
                repeat (go_big_quiet_step (fail))
                refine wpQuiet_nil ?_
                clear c5
                have HE8 : Hid (Eds w0.heap.size w6.drew (tk x) b g B (n + 1) t' (Po.bump h 7)) := HE6.out.below ((Kg.Touch.drew [] w6).below (Nat.le_refl w6.heap.size) (fun k hk => by cases hk))
                have HB8 : Hid (Below w0.heap.size w0 w6.drew) := HB6.out.trans (((Kg.Touch.drew [] w6).below (Nat.le_refl w6.heap.size) (fun k hk => by cases hk)).mono HB6.out.size)
                clear HE6 HB6
                go_wp2
                go_roundw
                case rel => exact ⟨n + 1, t', _, by go_num, by omega, by rw [Hov'.out], HE8, HB8⟩
                case measure => simp [intOf]; omega
            | false =>
              have HOVF : Hid (t.ov = false) := hov
              by_cases hn5 : 5 ≤ (n : Int)
              · have Hov' : Hid (t'.ov = true) := HOV.out.trans (by simp)
                have ck := HA5.out.cell 7 (.int .i64 (h 7 : Nat)) rfl
                have zk := HA5.out.frozen 7
                have hk12 : (h 7 : Nat) ≤ 12 := HLE.out 7
                go_upto_region 19 with fail
                generalize (w5.setCell ⟨B, 7, none⟩ (.int .i64 ((h 7 : Nat) + 1))) = w6 at HV6 HE6 HB6 ⊢
                clear ck zk hk12 HA5
                have c5 := HE6.out.had.cell 5 (.int .i64 (Po.bump h 7 5 : Nat)) rfl
                have e5 : Po.bump h 7 5 = h 5 := rfl
                rw [e5] at c5
                by_cases h5 : (h 5 : Nat) = 0
                · have hen : clp (f).te ≤ (tk x).most := HKp.out.en rfl HOVF.out h5
                  have h5' : (((h 5 : Nat) : Int) == 0) = true := by simpa using h5
                  obtain ⟨M, hM⟩ : ∃ M, M = clim x.c x.base := ⟨_, rfl⟩
                  have hen2 : clp (f).te ≤ M := by rw [hM]; exact hen
                  have hvl : V < w6.heap.size := heap_lt HV6.out
                  have hxl : w.heap.size < w6.heap.size := by have := Hs0.out; have := HB6.out.size; omega
                  have hbl : B < w6.heap.size := heap_lt HE6.out.had
                  have hAx := HXA.out w6 HB6.out
                  go_upto_region 23 with fail
                  haveI hinh : Inhabited (Kg.Bel w6) := ⟨⟨w6, Below.refl _ _⟩⟩
                  have x5 : ∀ p : Kg.Bel w6, p.v.cell? ⟨B, 5, none⟩ = some (.int .i64 (h 5 : Nat)) := fun p => (p.h.cell (p := ⟨B, 5, none⟩) hbl).trans c5
                  have xt : ∀ p : Kg.Bel w6, p.v.cell? ⟨V, 2, none⟩ = some (.int .i64 (f).te) := fun p => (p.h.cell (p := ⟨V, 2, none⟩) hvl).trans (heap_cell HV6.out 2)
                  have a0 : ∀ p : Kg.Bel w6, p.v.cell? ⟨w.heap.size, 0, none⟩ = some (.int .i64 x.c.eden) := fun p => (p.h.cell (p := ⟨w.heap.size, 0, none⟩) hxl).trans (ask_cell hAx 0 _ rfl)
                  have a1 : ∀ p : Kg.Bel w6, p.v.cell? ⟨w.heap.size, 1, none⟩ = some (.int .i64 x.c.surv) := fun p => (p.h.cell (p := ⟨w.heap.size, 1, none⟩) hxl).trans (ask_cell hAx 1 _ rfl)
                  have a2 : ∀ p : Kg.Bel w6, p.v.cell? ⟨w.heap.size, 2, none⟩ = some (.int .i64 x.c.ten) := fun p => (p.h.cell (p := ⟨w.heap.size, 2, none⟩) hxl).trans (ask_cell hAx 2 _ rfl)
                  have a3 : ∀ p : Kg.Bel w6, p.v.cell? ⟨w.heap.size, 3, none⟩ = some (.int .i64 x.c.large) := fun p => (p.h.cell (p := ⟨w.heap.size, 3, none⟩) hxl).trans (ask_cell hAx 3 _ rfl)
                  have a4 : ∀ p : Kg.Bel w6, p.v.cell? ⟨w.heap.size, 4, none⟩ = some (.int .i64 x.c.floor) := fun p => (p.h.cell (p := ⟨w.heap.size, 4, none⟩) hxl).trans (ask_cell hAx 4 _ rfl)
                  have a5 : ∀ p : Kg.Bel w6, p.v.cell? ⟨w.heap.size, 5, none⟩ = some (.int .i64 x.c.num) := fun p => (p.h.cell (p := ⟨w.heap.size, 5, none⟩) hxl).trans (ask_cell hAx 5 _ rfl)
                  have a6 : ∀ p : Kg.Bel w6, p.v.cell? ⟨w.heap.size, 6, none⟩ = some (.int .i64 x.c.den) := fun p => (p.h.cell (p := ⟨w.heap.size, 6, none⟩) hxl).trans (ask_cell hAx 6 _ rfl)
                  have a7 : ∀ p : Kg.Bel w6, p.v.cell? ⟨w.heap.size, 7, none⟩ = some (.int .i64 x.c.target) := fun p => (p.h.cell (p := ⟨w.heap.size, 7, none⟩) hxl).trans (ask_cell hAx 7 _ rfl)
                  have a8 : ∀ p : Kg.Bel w6, p.v.cell? ⟨w.heap.size, 8, none⟩ = some (.int .i64 x.c.maxAge) := fun p => (p.h.cell (p := ⟨w.heap.size, 8, none⟩) hxl).trans (ask_cell hAx 8 _ rfl)
                  have a9 : ∀ p : Kg.Bel w6, p.v.cell? ⟨w.heap.size, 9, none⟩ = some (.int .i64 x.c.threads) := fun p => (p.h.cell (p := ⟨w.heap.size, 9, none⟩) hxl).trans (ask_cell hAx 9 _ rfl)
                  have a10 : ∀ p : Kg.Bel w6, p.v.cell? ⟨w.heap.size, 10, none⟩ = some (.int .i64 x.c.slots) := fun p => (p.h.cell (p := ⟨w.heap.size, 10, none⟩) hxl).trans (ask_cell hAx 10 _ rfl)
                  have a11 : ∀ p : Kg.Bel w6, p.v.cell? ⟨w.heap.size, 11, none⟩ = some (.int .i64 x.c.handles) := fun p => (p.h.cell (p := ⟨w.heap.size, 11, none⟩) hxl).trans (ask_cell hAx 11 _ rfl)
                  have a12 : ∀ p : Kg.Bel w6, p.v.cell? ⟨w.heap.size, 12, none⟩ = some (.int .i64 x.c.buffer) := fun p => (p.h.cell (p := ⟨w.heap.size, 12, none⟩) hxl).trans (ask_cell hAx 12 _ rfl)
                  have a13 : ∀ p : Kg.Bel w6, p.v.cell? ⟨w.heap.size, 13, none⟩ = some (.int .i64 x.c.workers) := fun p => (p.h.cell (p := ⟨w.heap.size, 13, none⟩) hxl).trans (ask_cell hAx 13 _ rfl)
                  have a14 : ∀ p : Kg.Bel w6, p.v.cell? ⟨w.heap.size, 14, none⟩ = some (.int .i64 x.base) := fun p => (p.h.cell (p := ⟨w.heap.size, 14, none⟩) hxl).trans (ask_cell hAx 14 _ rfl)
                  have HL : Hid (∀ p : Kg.Bel w6, Calls Try.prog 7 #[cv x.c, .int .i64 x.base] p.v fun e w' => e = .returned (.int .i64 M) ∧ Below p.v.heap.size p.v w') := fun p => by rw [hM]; exact plimit_yes HK.out.2 x.base p.v
                  clear hvl hxl hbl hAx hen c5 hM
                  by_cases ht : (f).te < 0
                  · have hm0 : 0 ≤ M := by have := clp_nn (f).te; omega
                    have hgt' : decide (M < 0) = false := decide_eq_false (by omega)
                    clear hen2
                    refine region_below mixed (by kernel_rfl) ?_
                    repeat (go_big_quiet_step (first | (go_at_call 7; exact calls_bel (HL.out _))))
                    refine wpQuiet_nil ?_
                    rintro w8 ⟨⟨w8, b8⟩, rfl⟩
                    clear x5 xt HL hinh a0 a1 a2 a3 a4 a5 a6 a7 a8 a9 a10 a11 a12 a13 a14
                    have HE8 : Hid (Eds w0.heap.size w8 (tk x) b g B (n + 1) t' (Po.bump h 7)) := HE6.out.below (b8)
                    have HB8 : Hid (Below w0.heap.size w0 w8) := HB6.out.trans ((b8).mono HB6.out.size)
                    clear HE6 HB6
                    go_wp2
                    go_roundw
                    case rel => exact ⟨n + 1, t', _, by go_num, by omega, by rw [Hov'.out], HE8, HB8⟩
                    case measure => simp [intOf]; omega
                  · have hm0 : (f).te ≤ M := by rw [clp_of (by omega)] at hen2; exact hen2
                    have hgt' : decide (M < (f).te) = false := decide_eq_false (by omega)
                    have ht0 : 0 ≤ (f).te := by omega
                    clear hen2
                    refine region_below mixed (by kernel_rfl) ?_
                    repeat (go_big_quiet_step (first | (go_at_call 7; exact calls_bel (HL.out _))))
                    refine wpQuiet_nil ?_
                    rintro w8 ⟨⟨w8, b8⟩, rfl⟩
                    clear x5 xt HL hinh a0 a1 a2 a3 a4 a5 a6 a7 a8 a9 a10 a11 a12 a13 a14
                    have HE8 : Hid (Eds w0.heap.size w8 (tk x) b g B (n + 1) t' (Po.bump h 7)) := HE6.out.below (b8)
                    have HB8 : Hid (Below w0.heap.size w0 w8) := HB6.out.trans ((b8).mono HB6.out.size)
                    clear HE6 HB6
                    go_wp2
                    go_roundw
                    case rel => exact ⟨n + 1, t', _, by go_num, by omega, by rw [Hov'.out], HE8, HB8⟩
                    case measure => simp [intOf]; omega
                · have h5' : (((h 5 : Nat) : Int) == 0) = false := by simpa using h5
                  go_upto_region 23 with fail
                  refine quiet_tail 21 mixed (by kernel_rfl) ?_
                  simp only [List.take_succ_cons, List.take_zero, List.drop_succ_cons, List.drop_zero]
                  repeat (go_big_quiet_step (fail))
                  refine wpQuiet_nil ?_
                  clear c5
                  have HE8 : Hid (Eds w0.heap.size w6.drew (tk x) b g B (n + 1) t' (Po.bump h 7)) := HE6.out.below ((Kg.Touch.drew [] w6).below (Nat.le_refl w6.heap.size) (fun k hk => by cases hk))
                  have HB8 : Hid (Below w0.heap.size w0 w6.drew) := HB6.out.trans (((Kg.Touch.drew [] w6).below (Nat.le_refl w6.heap.size) (fun k hk => by cases hk)).mono HB6.out.size)
                  clear HE6 HB6
                  go_wp2
                  go_roundw
                  case rel => exact ⟨n + 1, t', _, by go_num, by omega, by rw [Hov'.out], HE8, HB8⟩
                  case measure => simp [intOf]; omega
              · have hn5' : decide (5 ≤ (n : Int)) = false := decide_eq_false hn5
                have Hov' : Hid (t'.ov = true) := HOV.out.trans (by simp)
                have ck := HA5.out.cell 7 (.int .i64 (h 7 : Nat)) rfl
                have zk := HA5.out.frozen 7
                have hk12 : (h 7 : Nat) ≤ 12 := HLE.out 7
                go_upto_region 19 with fail
                generalize (w5.setCell ⟨B, 7, none⟩ (.int .i64 ((h 7 : Nat) + 1))) = w6 at HV6 HE6 HB6 ⊢
                clear ck zk hk12 HA5
                have c5 := HE6.out.had.cell 5 (.int .i64 (Po.bump h 7 5 : Nat)) rfl
                have e5 : Po.bump h 7 5 = h 5 := rfl
                rw [e5] at c5
                by_cases h5 : (h 5 : Nat) = 0
                · have hen : clp (f).te ≤ (tk x).most := HKp.out.en rfl HOVF.out h5
                  have h5' : (((h 5 : Nat) : Int) == 0) = true := by simpa using h5
                  obtain ⟨M, hM⟩ : ∃ M, M = clim x.c x.base := ⟨_, rfl⟩
                  have hen2 : clp (f).te ≤ M := by rw [hM]; exact hen
                  have hvl : V < w6.heap.size := heap_lt HV6.out
                  have hxl : w.heap.size < w6.heap.size := by have := Hs0.out; have := HB6.out.size; omega
                  have hbl : B < w6.heap.size := heap_lt HE6.out.had
                  have hAx := HXA.out w6 HB6.out
                  go_upto_region 23 with fail
                  haveI hinh : Inhabited (Kg.Bel w6) := ⟨⟨w6, Below.refl _ _⟩⟩
                  have x5 : ∀ p : Kg.Bel w6, p.v.cell? ⟨B, 5, none⟩ = some (.int .i64 (h 5 : Nat)) := fun p => (p.h.cell (p := ⟨B, 5, none⟩) hbl).trans c5
                  have xt : ∀ p : Kg.Bel w6, p.v.cell? ⟨V, 2, none⟩ = some (.int .i64 (f).te) := fun p => (p.h.cell (p := ⟨V, 2, none⟩) hvl).trans (heap_cell HV6.out 2)
                  have a0 : ∀ p : Kg.Bel w6, p.v.cell? ⟨w.heap.size, 0, none⟩ = some (.int .i64 x.c.eden) := fun p => (p.h.cell (p := ⟨w.heap.size, 0, none⟩) hxl).trans (ask_cell hAx 0 _ rfl)
                  have a1 : ∀ p : Kg.Bel w6, p.v.cell? ⟨w.heap.size, 1, none⟩ = some (.int .i64 x.c.surv) := fun p => (p.h.cell (p := ⟨w.heap.size, 1, none⟩) hxl).trans (ask_cell hAx 1 _ rfl)
                  have a2 : ∀ p : Kg.Bel w6, p.v.cell? ⟨w.heap.size, 2, none⟩ = some (.int .i64 x.c.ten) := fun p => (p.h.cell (p := ⟨w.heap.size, 2, none⟩) hxl).trans (ask_cell hAx 2 _ rfl)
                  have a3 : ∀ p : Kg.Bel w6, p.v.cell? ⟨w.heap.size, 3, none⟩ = some (.int .i64 x.c.large) := fun p => (p.h.cell (p := ⟨w.heap.size, 3, none⟩) hxl).trans (ask_cell hAx 3 _ rfl)
                  have a4 : ∀ p : Kg.Bel w6, p.v.cell? ⟨w.heap.size, 4, none⟩ = some (.int .i64 x.c.floor) := fun p => (p.h.cell (p := ⟨w.heap.size, 4, none⟩) hxl).trans (ask_cell hAx 4 _ rfl)
                  have a5 : ∀ p : Kg.Bel w6, p.v.cell? ⟨w.heap.size, 5, none⟩ = some (.int .i64 x.c.num) := fun p => (p.h.cell (p := ⟨w.heap.size, 5, none⟩) hxl).trans (ask_cell hAx 5 _ rfl)
                  have a6 : ∀ p : Kg.Bel w6, p.v.cell? ⟨w.heap.size, 6, none⟩ = some (.int .i64 x.c.den) := fun p => (p.h.cell (p := ⟨w.heap.size, 6, none⟩) hxl).trans (ask_cell hAx 6 _ rfl)
                  have a7 : ∀ p : Kg.Bel w6, p.v.cell? ⟨w.heap.size, 7, none⟩ = some (.int .i64 x.c.target) := fun p => (p.h.cell (p := ⟨w.heap.size, 7, none⟩) hxl).trans (ask_cell hAx 7 _ rfl)
                  have a8 : ∀ p : Kg.Bel w6, p.v.cell? ⟨w.heap.size, 8, none⟩ = some (.int .i64 x.c.maxAge) := fun p => (p.h.cell (p := ⟨w.heap.size, 8, none⟩) hxl).trans (ask_cell hAx 8 _ rfl)
                  have a9 : ∀ p : Kg.Bel w6, p.v.cell? ⟨w.heap.size, 9, none⟩ = some (.int .i64 x.c.threads) := fun p => (p.h.cell (p := ⟨w.heap.size, 9, none⟩) hxl).trans (ask_cell hAx 9 _ rfl)
                  have a10 : ∀ p : Kg.Bel w6, p.v.cell? ⟨w.heap.size, 10, none⟩ = some (.int .i64 x.c.slots) := fun p => (p.h.cell (p := ⟨w.heap.size, 10, none⟩) hxl).trans (ask_cell hAx 10 _ rfl)
                  have a11 : ∀ p : Kg.Bel w6, p.v.cell? ⟨w.heap.size, 11, none⟩ = some (.int .i64 x.c.handles) := fun p => (p.h.cell (p := ⟨w.heap.size, 11, none⟩) hxl).trans (ask_cell hAx 11 _ rfl)
                  have a12 : ∀ p : Kg.Bel w6, p.v.cell? ⟨w.heap.size, 12, none⟩ = some (.int .i64 x.c.buffer) := fun p => (p.h.cell (p := ⟨w.heap.size, 12, none⟩) hxl).trans (ask_cell hAx 12 _ rfl)
                  have a13 : ∀ p : Kg.Bel w6, p.v.cell? ⟨w.heap.size, 13, none⟩ = some (.int .i64 x.c.workers) := fun p => (p.h.cell (p := ⟨w.heap.size, 13, none⟩) hxl).trans (ask_cell hAx 13 _ rfl)
                  have a14 : ∀ p : Kg.Bel w6, p.v.cell? ⟨w.heap.size, 14, none⟩ = some (.int .i64 x.base) := fun p => (p.h.cell (p := ⟨w.heap.size, 14, none⟩) hxl).trans (ask_cell hAx 14 _ rfl)
                  have HL : Hid (∀ p : Kg.Bel w6, Calls Try.prog 7 #[cv x.c, .int .i64 x.base] p.v fun e w' => e = .returned (.int .i64 M) ∧ Below p.v.heap.size p.v w') := fun p => by rw [hM]; exact plimit_yes HK.out.2 x.base p.v
                  clear hvl hxl hbl hAx hen c5 hM
                  by_cases ht : (f).te < 0
                  · have hm0 : 0 ≤ M := by have := clp_nn (f).te; omega
                    have hgt' : decide (M < 0) = false := decide_eq_false (by omega)
                    clear hen2
                    refine region_below mixed (by kernel_rfl) ?_
                    repeat (go_big_quiet_step (first | (go_at_call 7; exact calls_bel (HL.out _))))
                    refine wpQuiet_nil ?_
                    rintro w8 ⟨⟨w8, b8⟩, rfl⟩
                    clear x5 xt HL hinh a0 a1 a2 a3 a4 a5 a6 a7 a8 a9 a10 a11 a12 a13 a14
                    have HE8 : Hid (Eds w0.heap.size w8 (tk x) b g B (n + 1) t' (Po.bump h 7)) := HE6.out.below (b8)
                    have HB8 : Hid (Below w0.heap.size w0 w8) := HB6.out.trans ((b8).mono HB6.out.size)
                    clear HE6 HB6
                    go_wp2
                    go_roundw
                    case rel => exact ⟨n + 1, t', _, by go_num, by omega, by rw [Hov'.out], HE8, HB8⟩
                    case measure => simp [intOf]; omega
                  · have hm0 : (f).te ≤ M := by rw [clp_of (by omega)] at hen2; exact hen2
                    have hgt' : decide (M < (f).te) = false := decide_eq_false (by omega)
                    have ht0 : 0 ≤ (f).te := by omega
                    clear hen2
                    refine region_below mixed (by kernel_rfl) ?_
                    repeat (go_big_quiet_step (first | (go_at_call 7; exact calls_bel (HL.out _))))
                    refine wpQuiet_nil ?_
                    rintro w8 ⟨⟨w8, b8⟩, rfl⟩
                    clear x5 xt HL hinh a0 a1 a2 a3 a4 a5 a6 a7 a8 a9 a10 a11 a12 a13 a14
                    have HE8 : Hid (Eds w0.heap.size w8 (tk x) b g B (n + 1) t' (Po.bump h 7)) := HE6.out.below (b8)
                    have HB8 : Hid (Below w0.heap.size w0 w8) := HB6.out.trans ((b8).mono HB6.out.size)
                    clear HE6 HB6
                    go_wp2
                    go_roundw
                    case rel => exact ⟨n + 1, t', _, by go_num, by omega, by rw [Hov'.out], HE8, HB8⟩
                    case measure => simp [intOf]; omega
                · have h5' : (((h 5 : Nat) : Int) == 0) = false := by simpa using h5
                  go_upto_region 23 with fail
                  refine quiet_tail 21 mixed (by kernel_rfl) ?_
                  simp only [List.take_succ_cons, List.take_zero, List.drop_succ_cons, List.drop_zero]
                  repeat (go_big_quiet_step (fail))
                  refine wpQuiet_nil ?_
                  clear c5
                  have HE8 : Hid (Eds w0.heap.size w6.drew (tk x) b g B (n + 1) t' (Po.bump h 7)) := HE6.out.below ((Kg.Touch.drew [] w6).below (Nat.le_refl w6.heap.size) (fun k hk => by cases hk))
                  have HB8 : Hid (Below w0.heap.size w0 w6.drew) := HB6.out.trans (((Kg.Touch.drew [] w6).below (Nat.le_refl w6.heap.size) (fun k hk => by cases hk)).mono HB6.out.size)
                  clear HE6 HB6
                  go_wp2
                  go_roundw
                  case rel => exact ⟨n + 1, t', _, by go_num, by omega, by rw [Hov'.out], HE8, HB8⟩
                  case measure => simp [intOf]; omega
    · have hli : ¬ (n : Int) < 12 := by omega
      have J := HE.out.j
      have hov : t.ov = true := HE.out.ov (by omega)
      have hcl : t.cl = true := J.oc hov
      have hle := HE.out.le
      have b1 := hle 1
      have b2 := hle 2
      have b6 := hle 6
      have p3 : h 3 ≤ 1 := by rw [J.h3]; exact J.le.1
      have p4 : h 4 ≤ 1 := by rw [J.h4]; exact J.le.2.1
      have p5 : h 5 ≤ 1 := by rw [J.h5]; exact J.le.2.2
      have hlen := J.len
      have hpl1 := J.pl.1
      have hpl2 := J.pl.2
      have hkind : (tk x).kind = x.kind := rfl
      rw [hkind, hcl] at hpl1 hpl2
      have c1 := HE.out.had.cell 1 (.int .i64 (h 1 : Nat)) rfl
      have c2 := HE.out.had.cell 2 (.int .i64 (h 2 : Nat)) rfl
      have c6 := HE.out.had.cell 6 (.int .i64 (h 6 : Nat)) rfl
      have c3 := HE.out.had.cell 3 (.int .i64 (h 3 : Nat)) rfl
      have c4 := HE.out.had.cell 4 (.int .i64 (h 4 : Nat)) rfl
      have c5 := HE.out.had.cell 5 (.int .i64 (h 5 : Nat)) rfl
      have hbl : B < wr.heap.size := heap_lt HE.out.had
      have kk := ask_cell (HXA.out wr HBr.out) 15 (.int .i64 x.kind) rfl
      rw [hov]
      obtain ⟨h1, e1⟩ : ∃ q : Nat, q = h 1 := ⟨_, rfl⟩
      obtain ⟨h2, e2⟩ : ∃ q : Nat, q = h 2 := ⟨_, rfl⟩
      obtain ⟨h3, e3⟩ : ∃ q : Nat, q = h 3 := ⟨_, rfl⟩
      obtain ⟨h4, e4⟩ : ∃ q : Nat, q = h 4 := ⟨_, rfl⟩
      obtain ⟨h5, e5⟩ : ∃ q : Nat, q = h 5 := ⟨_, rfl⟩
      obtain ⟨h6, e6⟩ : ∃ q : Nat, q = h 6 := ⟨_, rfl⟩
      rw [← e1] at b1 c1 hpl1 hpl2
      rw [← e2] at b2 c2 hpl1 hpl2
      rw [← e6] at b6 c6 hpl1 hpl2
      rw [← e3] at p3 c3 hlen
      rw [← e4] at p4 c4 hlen
      rw [← e5] at p5 c5 hlen
      have HLn : Hid (t.ran.length = h3 + h4 + h5) := hlen
      have HP1 : Hid (x.kind = 1 → h1 + h2 + h6 = 1) := fun e => hpl1 ⟨e, rfl⟩
      have HP2 : Hid (¬ x.kind = 1 → h1 + h2 + h6 = 0) := fun e => hpl2 (fun q => e q.1)
      clear J hov hcl hle hlen hpl1 hpl2 hkind e1 e2 e3 e4 e5 e6 kX
      obtain ⟨u, hu1, hu2, hu3⟩ := HE.out.ex
      have HU : Hid (Pt wr w0.heap.size b u g (tk x) t) := hu1
      clear hu1 hu2 hu3
      have l3 : decide ((h3 : Int) ≤ 1) = true := decide_eq_true (by omega)
      have l4 : decide ((h4 : Int) ≤ 1) = true := decide_eq_true (by omega)
      have l5 : decide ((h5 : Int) ≤ 1) = true := decide_eq_true (by omega)
      by_cases hk : x.kind = 1
      · as_aux_lemma =>
        have hk' : (x.kind == 1) = true := by simpa using hk
        have hs := HP1.out hk
        clear HP1 HP2
        go_upto_region 30 with fail
        clear c1 c2 c6 kk
        haveI hinh : Inhabited (Kg.Bel wr) := ⟨⟨wr, Below.refl _ _⟩⟩
        have x3 : ∀ p : Kg.Bel wr, p.v.cell? ⟨B, 3, none⟩ = some (.int .i64 (h3 : Nat)) := fun p => (p.h.cell (p := ⟨B, 3, none⟩) hbl).trans c3
        have x4 : ∀ p : Kg.Bel wr, p.v.cell? ⟨B, 4, none⟩ = some (.int .i64 (h4 : Nat)) := fun p => (p.h.cell (p := ⟨B, 4, none⟩) hbl).trans c4
        have x5 : ∀ p : Kg.Bel wr, p.v.cell? ⟨B, 5, none⟩ = some (.int .i64 (h5 : Nat)) := fun p => (p.h.cell (p := ⟨B, 5, none⟩) hbl).trans c5
        have hpl : ((h1 : Int) + h2 + h6 == 1) = true := by simp; omega
        have HC : Hid (∀ p : Kg.Bel wr, Calls Try.prog 16 #[.pointer (some ⟨b, 0, none⟩)] p.v fun e w' => ∃ v, e = .returned v ∧ (∃ a cap, v = .slice a (h3 + h4 + h5) cap) ∧ ∃ q : Kg.Bel wr, w' = q.v) := fun p => (pcycles_any (HU.out.below p.h)).mono fun e w' ⟨v', r1, r2, r3⟩ => ⟨v', r1, by obtain ⟨a, cap, h⟩ := own_slice r2; exact ⟨a, cap, by rw [h, HLn.out]⟩, ⟨w', p.h.trans (r3.mono p.h.size)⟩, rfl⟩
        clear c3 c4 c5 hbl
        refine below_loose_as 23 (fun v => ∃ a cap, v = .slice a (h3 + h4 + h5) cap) rfl mixed (by kernel_rfl) (by kernel_rfl) ?_
        simp only [List.take_succ_cons, List.take_zero, List.drop_succ_cons, List.drop_zero]
        iterate 23 (go_big_quiet_step (fail))
        refine wpQuiet_nil ?_
        refine ⟨⟨?_, ?_⟩, ?_⟩
        · rfl
        · rintro w' ⟨p, rfl⟩
          refine ⟨16, #[.pointer (some ⟨b, 0, none⟩)], ?_, HC.out p⟩
          simp [go_sem]
        · rintro v ⟨va, vc, rfl⟩
          repeat (go_big_quiet_step (fail))
          refine wpQuiet_nil ?_
          rintro w8 ⟨⟨w8, b8⟩, rfl⟩
          have HBZ : Hid (Below w.heap.size w w8) := HBW.out w8 (HBr.out.trans (b8.mono HBr.out.size))
          clear x3 x4 x5 HC hinh
          go_wp2
          go_returns
          exact ⟨rfl, HBZ.out⟩
      · as_aux_lemma =>
        have hk' : (x.kind == 1) = false := by simpa using hk
        have hs := HP2.out hk
        clear HP1 HP2
        go_upto_region 30 with fail
        clear c1 c2 c6 kk
        haveI hinh : Inhabited (Kg.Bel wr) := ⟨⟨wr, Below.refl _ _⟩⟩
        have x3 : ∀ p : Kg.Bel wr, p.v.cell? ⟨B, 3, none⟩ = some (.int .i64 (h3 : Nat)) := fun p => (p.h.cell (p := ⟨B, 3, none⟩) hbl).trans c3
        have x4 : ∀ p : Kg.Bel wr, p.v.cell? ⟨B, 4, none⟩ = some (.int .i64 (h4 : Nat)) := fun p => (p.h.cell (p := ⟨B, 4, none⟩) hbl).trans c4
        have x5 : ∀ p : Kg.Bel wr, p.v.cell? ⟨B, 5, none⟩ = some (.int .i64 (h5 : Nat)) := fun p => (p.h.cell (p := ⟨B, 5, none⟩) hbl).trans c5
        have hpl : ((h1 : Int) + h2 + h6 == 0) = true := by simp; omega
        have HC : Hid (∀ p : Kg.Bel wr, Calls Try.prog 16 #[.pointer (some ⟨b, 0, none⟩)] p.v fun e w' => ∃ v, e = .returned v ∧ (∃ a cap, v = .slice a (h3 + h4 + h5) cap) ∧ ∃ q : Kg.Bel wr, w' = q.v) := fun p => (pcycles_any (HU.out.below p.h)).mono fun e w' ⟨v', r1, r2, r3⟩ => ⟨v', r1, by obtain ⟨a, cap, h⟩ := own_slice r2; exact ⟨a, cap, by rw [h, HLn.out]⟩, ⟨w', p.h.trans (r3.mono p.h.size)⟩, rfl⟩
        clear c3 c4 c5 hbl
        refine below_loose_as 23 (fun v => ∃ a cap, v = .slice a (h3 + h4 + h5) cap) rfl mixed (by kernel_rfl) (by kernel_rfl) ?_
        simp only [List.take_succ_cons, List.take_zero, List.drop_succ_cons, List.drop_zero]
        iterate 23 (go_big_quiet_step (fail))
        refine wpQuiet_nil ?_
        refine ⟨⟨?_, ?_⟩, ?_⟩
        · rfl
        · rintro w' ⟨p, rfl⟩
          refine ⟨16, #[.pointer (some ⟨b, 0, none⟩)], ?_, HC.out p⟩
          simp [go_sem]
        · rintro v ⟨va, vc, rfl⟩
          repeat (go_big_quiet_step (fail))
          refine wpQuiet_nil ?_
          rintro w8 ⟨⟨w8, b8⟩, rfl⟩
          have HBZ : Hid (Below w.heap.size w w8) := HBW.out w8 (HBr.out.trans (b8.mono HBr.out.size))
          clear x3 x4 x5 HC hinh
          go_wp2
          go_returns
          exact ⟨rfl, HBZ.out⟩

end Go.Proofs.Ytcijdbhabbepaaa.Po
