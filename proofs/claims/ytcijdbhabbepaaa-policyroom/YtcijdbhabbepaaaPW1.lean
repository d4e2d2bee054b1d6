/-
  PolicyRoom: a memory in numbers, in memory; part, view.
-/
import Derived.Test.YtcijdbhabbepaaaPL13
import Derived.Test.YtcijdbhabbepaaaPOm
set_option linter.unusedVariables false
set_option maxRecDepth 20000
namespace Go.Proofs.Ytcijdbhabbepaaa.Po
open Go.RowKit Go.Proofs.Ytcijdbhabbepaaa.Kg

abbrev wcells (c : Cfg) (z : Wl) : Array Value := #[.int .i64 c.eden, .int .i64 c.surv, .int .i64 c.ten, .int .i64 c.large, .int .i64 c.floor, .int .i64 c.num, .int .i64 c.den, .int .i64 c.target, .int .i64 c.maxAge, .int .i64 c.threads, .int .i64 c.slots, .int .i64 c.handles, .int .i64 c.buffer, .int .i64 c.workers, .int .i64 z.el, .int .i64 z.ed, .int .i64 z.fl, .int .i64 z.fd, .int .i64 z.ol, .int .i64 z.od]

/-- Where the words lie, in block D. -/
def Wld (w : World) (D : Nat) (c : Cfg) (z : Wl) : Prop := w.heap[D]? = some (.cells (wcells c z) 51 (0, 0))

theorem Wld.cell {w : World} {D : Nat} {c : Cfg} {z : Wl} (h : Wld w D c z) (j : Nat) (v : Value) (hv : (wcells c z)[j]? = some v) : w.cell? ⟨D, j, none⟩ = some v := (heap_cell h j).trans hv
theorem Wld.frozen {w : World} {D : Nat} {c : Cfg} {z : Wl} (h : Wld w D c z) (j : Nat) : w.frozen? ⟨D, j, none⟩ = false := heap_frozen h j
theorem Wld.touch {w w' : World} {D : Nat} {c : Cfg} {z : Wl} {G : List Nat} (h : Wld w D c z) (ht : Kg.Touch G w w') (hb : D ∉ G) : Wld w' D c z := (ht.block D (heap_lt h) hb).trans h

/-- Numbers that are far from the ends. -/
structure Wsm (c : Cfg) (z : Wl) : Prop where
  ok : c.Ok
  n1 : 0 ≤ z.el ∧ z.el ≤ 1000000
  n2 : 0 ≤ z.ed ∧ z.ed ≤ 1000000
  n3 : 0 ≤ z.fl ∧ z.fl ≤ 1000000
  n4 : 0 ≤ z.fd ∧ z.fd ≤ 1000000
  n5 : 0 ≤ z.ol ∧ z.ol ≤ 1000000
  n6 : 0 ≤ z.od ∧ z.od ≤ 1000000

set_option maxHeartbeats 4000000 in
theorem part_any (n p : Int) (hn : 0 ≤ n ∧ n ≤ 10000000) (w : World) : Calls Try.prog 34 #[.int .i64 n, .int .i64 p] w fun e w' => e = .returned (.int .i64 (part n p)) ∧ w' = w := by
  have key : ∀ q : Int, 0 ≤ q → q ≤ 100 → wrap64 (n * q) = n * q ∧ wrap64 ((n * q).tdiv 100) = n * q / 100 := fun q h0 h1 => by
    have a1 : 0 ≤ n * q := Int.mul_nonneg hn.1 h0
    have a2 : n * q ≤ n * 100 := Int.mul_le_mul_of_nonneg_left h1 hn.1
    exact ⟨w64 _ (by omega) (by omega), by rw [Int.tdiv_eq_ediv_of_nonneg a1]; exact w64 _ (by omega) (by omega)⟩
  obtain ⟨r, hr⟩ : ∃ r, r = part n p := ⟨_, rfl⟩
  rw [← hr]
  have Hr : Hid (r = n * pct p / 100) := hr
  clear hr
  by_cases h1 : p < 0
  · have e : Hid (pct p = 0) := (by unfold pct; rw [if_pos h1] : pct p = 0)
    obtain ⟨k1, k2⟩ := key 0 (by omega) (by omega)
    have er : Hid (r = 0) := Hr.out.trans (by rw [e.out]; simp)
    clear key k1 k2
    go_enter Try.func34, Try.ntmps34
    go_wp2
    go_ret
    exact ⟨by rw [er.out]; rfl, rfl⟩
  · by_cases h2 : 100 < p
    · have e : Hid (pct p = 100) := (by unfold pct; rw [if_neg h1, if_pos h2] : pct p = 100)
      obtain ⟨k1, k2⟩ := key 100 (by omega) (by omega)
      have er : Hid (r = n * 100 / 100) := Hr.out.trans (by rw [e.out])
      clear key
      go_enter Try.func34, Try.ntmps34
      go_wp2
      go_ret
      exact ⟨by rw [er.out]; first | rfl | simp, rfl⟩
    · have e : Hid (pct p = p) := (by unfold pct; rw [if_neg h1, if_neg h2] : pct p = p)
      obtain ⟨k1, k2⟩ := key p (by omega) (by omega)
      have er : Hid (r = n * p / 100) := Hr.out.trans (by rw [e.out])
      clear key
      go_enter Try.func34, Try.ntmps34
      go_wp2
      go_ret
      exact ⟨by rw [er.out]; rfl, rfl⟩

set_option maxHeartbeats 8000000 in
theorem view_any {w : World} {D : Nat} {c : Cfg} {z : Wl} (h : Wld w D c z) (hs : Wsm c z) : Calls Try.prog 18 #[.pointer (some ⟨D, 0, none⟩)] w fun e w' => e = .returned (vv (z.view c.eden c.ten)) ∧ Below w.heap.size w w' := by
  obtain ⟨w0, hw0⟩ : ∃ q9, q9 = w.alloc (.cells #[.int .i64 0, .int .i64 0, .int .i64 0, .int .i64 0] 40) := ⟨_, rfl⟩
  have hb0 : Below w.heap.size w w0 := by rw [hw0]; exact Below.alloc (Below.refl _ _) (Nat.le_refl _) _
  have h0 : Wld w0 D c z := h.touch (Kg.Touch.of_below hb0 []) (by simp)
  have hg0 : w0.heap[w.heap.size]? = some (.cells #[.int .i64 0, .int .i64 0, .int .i64 0, .int .i64 0] 40 (0, 0)) := by rw [hw0]; exact heap_alloc_new w _
  have HB : Hid (Below w.heap.size w w0) := hb0
  have HG : Hid (w0.heap[w.heap.size]? = some (.cells #[.int .i64 0, .int .i64 0, .int .i64 0, .int .i64 0] 40 (0, 0))) := hg0
  have k0 := h0.cell 0 (.int .i64 c.eden) rfl
  have k2 := h0.cell 2 (.int .i64 c.ten) rfl
  have k14 := h0.cell 14 (.int .i64 z.el) rfl
  have k15 := h0.cell 15 (.int .i64 z.ed) rfl
  have k16 := h0.cell 16 (.int .i64 z.fl) rfl
  have k17 := h0.cell 17 (.int .i64 z.fd) rfl
  have k18 := h0.cell 18 (.int .i64 z.ol) rfl
  have k19 := h0.cell 19 (.int .i64 z.od) rfl
  have b1 := hs.n1
  have b2 := hs.n2
  have b3 := hs.n3
  have b4 := hs.n4
  have b5 := hs.n5
  have b6 := hs.n6
  have b7 : 64 ≤ c.eden ∧ c.eden ≤ 65536 := ⟨hs.ok.e0, hs.ok.e1⟩
  have b8 : 64 ≤ c.ten ∧ c.ten ≤ 65536 := ⟨hs.ok.t0, hs.ok.t1⟩
  have s1 : wrap64 (c.eden - z.el) = c.eden - z.el := w64 _ (by omega) (by omega)
  have s2 : wrap64 (c.eden - z.el - z.ed) = c.eden - z.el - z.ed := w64 _ (by omega) (by omega)
  have s3 : wrap64 (z.el + z.ed) = z.el + z.ed := w64 _ (by omega) (by omega)
  have s4 : wrap64 (z.el + z.ed + z.fl) = z.el + z.ed + z.fl := w64 _ (by omega) (by omega)
  have s5 : wrap64 (z.el + z.ed + z.fl + z.fd) = z.el + z.ed + z.fl + z.fd := w64 _ (by omega) (by omega)
  have s6 : wrap64 (z.ol + z.od) = z.ol + z.od := w64 _ (by omega) (by omega)
  have s7 : wrap64 (c.ten - z.ol) = c.ten - z.ol := w64 _ (by omega) (by omega)
  have s8 : wrap64 (c.ten - z.ol - z.od) = c.ten - z.ol - z.od := w64 _ (by omega) (by omega)
  clear h h0 hb0 hg0 hs
  go_enter Try.func18, Try.ntmps18
  go_upto_region 1 with fail
  rw [← hw0]
  clear hw0
  refine quiet_tail 58 mixed (by kernel_rfl) ?_
  simp only [List.take_succ_cons, List.take_zero, List.drop_succ_cons, List.drop_zero]
  repeat (go_big_quiet_step (fail))
  refine wpQuiet_nil ?_
  clear k0 k2 k14 k15 k16 k17 k18 k19 b1 b2 b3 b4 b5 b6 b7 b8 s1 s2 s3 s4 s5 s6 s7 s8
  have hgd : w0.drew.heap[w.heap.size]? = some (.cells #[.int .i64 0, .int .i64 0, .int .i64 0, .int .i64 0] 40 (0, 0)) := HG.out
  have HBd : Hid (Below w.heap.size w w0.drew) := HB.out.trans ((Kg.Touch.drew [] w0).below HB.out.size (fun k hk => by cases hk))
  generalize w0.drew = w1 at hgd HBd ⊢
  have f0 := heap_cell hgd 0
  have f1 := heap_cell hgd 1
  have f2 := heap_cell hgd 2
  have f3 := heap_cell hgd 3
  have z0 := heap_frozen hgd 0
  have z1 := heap_frozen hgd 1
  have z2 := heap_frozen hgd 2
  have z3 := heap_frozen hgd 3
  simp only [List.getElem?_toArray, List.getElem?_cons_zero, List.getElem?_cons_succ] at f0 f1 f2 f3
  go_wp2
  have hbx : ((((w1.setCell ⟨w.heap.size, 0, none⟩ (.int .i64 (c.eden - z.el - z.ed))).setCell ⟨w.heap.size, 1, none⟩ (.int .i64 (z.el + z.ed + z.fl + z.fd))).setCell ⟨w.heap.size, 2, none⟩ (.int .i64 (z.ol + z.od))).setCell ⟨w.heap.size, 3, none⟩ (.int .i64 (c.ten - z.ol - z.od))).heap[w.heap.size]? = some (.cells #[.int .i64 (c.eden - z.el - z.ed), .int .i64 (z.el + z.ed + z.fl + z.fd), .int .i64 (z.ol + z.od), .int .i64 (c.ten - z.ol - z.od)] 40 (0, 0)) :=
    heap_set (heap_set (heap_set (heap_set hgd 0 _) 1 _) 2 _) 3 _
  have hB4 : Below w.heap.size w ((((w1.setCell ⟨w.heap.size, 0, none⟩ (.int .i64 (c.eden - z.el - z.ed))).setCell ⟨w.heap.size, 1, none⟩ (.int .i64 (z.el + z.ed + z.fl + z.fd))).setCell ⟨w.heap.size, 2, none⟩ (.int .i64 (z.ol + z.od))).setCell ⟨w.heap.size, 3, none⟩ (.int .i64 (c.ten - z.ol - z.od))) :=
    HBd.out.trans (((((Kg.Touch.setCell (F := [w.heap.size]) _ _ _ (by simp)).trans (Kg.Touch.setCell _ _ _ (by simp))).trans (Kg.Touch.setCell _ _ _ (by simp))).trans (Kg.Touch.setCell _ _ _ (by simp))).below HBd.out.size (fun k hk => by simp at hk; omega))
  clear f0 f1 f2 f3 z0 z1 z2 z3 hgd
  generalize ((((w1.setCell ⟨w.heap.size, 0, none⟩ (.int .i64 (c.eden - z.el - z.ed))).setCell ⟨w.heap.size, 1, none⟩ (.int .i64 (z.el + z.ed + z.fl + z.fd))).setCell ⟨w.heap.size, 2, none⟩ (.int .i64 (z.ol + z.od))).setCell ⟨w.heap.size, 3, none⟩ (.int .i64 (c.ten - z.ol - z.od))) = w5 at hbx hB4 ⊢
  have x0 : w5.cell? ⟨w.heap.size, 0, none⟩ = some (.int .i64 (c.eden - z.el - z.ed)) := heap_cell hbx 0
  have x1 : w5.cell? ⟨w.heap.size, 1, none⟩ = some (.int .i64 (z.el + z.ed + z.fl + z.fd)) := heap_cell hbx 1
  have x2 : w5.cell? ⟨w.heap.size, 2, none⟩ = some (.int .i64 (z.ol + z.od)) := heap_cell hbx 2
  have x3 : w5.cell? ⟨w.heap.size, 3, none⟩ = some (.int .i64 (c.ten - z.ol - z.od)) := heap_cell hbx 3
  refine bodyPost_ret (v := vv (z.view c.eden c.ten)) (by simp [results, Try.results18, go_sem, x0, x1, x2, x3, Wl.view]) rfl ?_
  exact ⟨rfl, hB4⟩

end Go.Proofs.Ytcijdbhabbepaaa.Po
