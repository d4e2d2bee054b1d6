import Derived.Test.YtblbiikfipcbcaaGreatDoorPRk
import Derived.Test.YtblbiikfipcbcaaGreatDoorPIp
import Derived.Test.YtblbiikfipcbcaaGreatDoorPWd
import Derived.Test.YtblbiikfipcbcaaGreatDoorIRm
/-
  Images: a graph that may be, written and read.
-/
set_option linter.unusedVariables false
set_option maxRecDepth 20000
namespace Go.Proofs.YtblbiikfipcbcaaGreatDoor
open Go.RowKit Go.Shelf

theorem rise_le : ∀ (l : List Im.Ob) (n : Nat), Im.Rise n l → ∀ o, o ∈ l → o.ser ≤ lastS l := by
  intro l
  induction l with
  | nil => intro n _ o ho; cases ho
  | cons x r ih =>
    intro n h o ho
    cases r with
    | nil =>
      obtain rfl : o = x := by simpa using ho
      exact Nat.le_refl _
    | cons y r =>
      have e : lastS (x :: y :: r) = lastS (y :: r) := by simp [lastS]
      rw [e]
      rcases List.mem_cons.1 ho with rfl | ho
      · have h1 : o.ser < y.ser := h.2.1
        have h2 := ih _ h.2 y (by simp)
        omega
      · exact ih _ h.2 o ho

theorem allB_in {lo hi : Int} {l : List Int} (h : allB lo hi l) : ∀ z, z ∈ l → lo ≤ z ∧ z ≤ hi := fun z hz => by
  have := h z hz
  unfold inB at this
  simpa using this

theorem MB.may {g : Im.Gr} (h : MB g) : Im.May hd16 g := by
  have h1 := h.o.low
  refine ⟨by omega, h.o.nx, h.o.rise, fun o ho => by have := rise_le _ _ h.o.rise o ho; omega, h.o.head, fun o ho => allB_in (h.o.ptrs o ho), h.s.t0, h.s.t1, h.s.few, fun t ht f hf => (h.s.ok t ht f hf).1, fun t ht f hf => allB_in (h.s.ok t ht f hf).2, h.h.len, allB_in h.h.all, h.f.reg, allB_in h.f.que, h.f.once, h.f.plain, h.k⟩

/-- What is written of a graph that may be is read as that graph. -/
theorem wback {n0 : Nat} {w : World} {vo vs vh vr vq : Value} {os : List OL} {ts : List (Value × List (Value × List Int))} {g : Im.Gr} (hg : Grd n0 w vo vs vh vr vq os ts g) (hz : gsz os ts g ≤ 1000000000000) (hr : ∀ x, x ∈ os → obR x.o) (hm : MB g) : Im.ngOk (Im.toNG g) ∧ Im.dec (Im.enc (Im.toNG g)) = .ok (Im.toNG g) ∧ Im.wNG (Im.toNG g) = g := by
  have ho : ∀ x, x ∈ os → x.o.ps.length + x.o.rs.length ≤ osum os := sum_mem (fun x : OL => x.o.ps.length + x.o.rs.length) os
  have ht : ∀ x, x ∈ ts → x.2.length + fsum (x.2.map (·.2)) ≤ tsum ts := sum_mem (fun x : Value × List (Value × List Int) => x.2.length + fsum (x.2.map (·.2))) ts
  have hM := hm.may
  unfold gsz szs at hz
  have e1 : g.obs.length = os.length := by rw [hg.eo, List.length_map]
  have hok : Im.ngOk (Im.toNG g) := by
    refine Im.ngOk_of hM (fun o ho => by have := hd16_in ho; omega) (by omega) (by omega) (fun o hom => ?_) (fun t htm => ?_)
    · rw [hg.eo] at hom
      obtain ⟨x, hx, rfl⟩ := List.mem_map.1 hom
      have := ho x hx
      exact ⟨by omega, by omega, (hr x hx).2.2.2⟩
    · have hf := hm.s.few t htm
      rw [hg.es] at htm
      obtain ⟨x, hx, rfl⟩ := List.mem_map.1 htm
      have := ht x hx
      refine ⟨by rw [List.length_map]; omega, fun f hfm => ?_⟩
      have : f.length ≤ fsum (x.2.map (fun y : Value × List Int => y.2)) := by unfold fsum; exact sum_mem List.length _ f hfm
      omega
  have hb : Im.fromNG (Im.toNG g) = g := Im.fromNG_toNG hM (fun o ho => by have := hd16_in ho; omega)
  refine ⟨hok, Im.dec_enc hok, ?_⟩
  rw [Im.wNG_low hok (by rw [hb]; exact fun o ho => (hg.sr o ho).1), hb]

/-- What is read and may be is what its bytes were written of. -/
theorem rback {bs : List Nat} {n : Im.NG} (hb : ∀ x, x ∈ bs → x < 256) (h : Im.dec bs = .ok n) (hm : MB (Im.wNG n)) : Im.ngOk n ∧ Im.toNG (Im.wNG n) = n ∧ bs = Im.enc (Im.toNG (Im.wNG n)) := by
  obtain ⟨h1, h2⟩ := Im.enc_dec hb h
  have e : Im.toNG (Im.wNG n) = n := by rw [Im.wNG_rise h1 hm.o.rise, Im.toNG_fromNG]
  exact ⟨h1, e, by rw [e]; exact h2⟩

theorem wObs_raw : ∀ (l : List Im.RO) (last : Nat), (∀ x, x ∈ l → Im.roOk x) → ∀ o, o ∈ Im.wObs last l → ∀ n, n ∈ o.rs → n < 18446744073709551616 := by
  intro l
  induction l with
  | nil => intro last _ o ho; cases ho
  | cons x r ih =>
    intro last h o ho
    rcases List.mem_cons.1 ho with rfl | ho
    · exact (h x (by simp)).2.2.2.2.2
    · exact ih _ (fun y hy => h y (by simp [hy])) o ho

/-- The objects that were read. -/
theorem robR {n : Im.NG} (h : Im.ngOk n) {os : List OL} (eo : (Im.wNG n).obs = os.map (·.o)) : ∀ x, x ∈ os → obR x.o := fun x hx => by
  have hm : x.o ∈ Im.wObs 0 n.2.1 := by
    have : x.o ∈ os.map (·.o) := List.mem_map_of_mem hx
    rw [← eo] at this
    exact this
  have h1 := wObs_ok n.2.1 0 h.2.1.2 x.o hm
  exact ⟨h1.1, h1.2.1, h1.2.2, wObs_raw n.2.1 0 h.2.1.2 x.o hm⟩

theorem mb0 : MB Im.g0 := by
  refine ⟨⟨trivial, fun o ho => (by cases ho), fun o ho => (by cases ho), by decide, by decide⟩, ⟨fun t ht => ?_, fun t ht => ?_, by decide, by decide⟩, ⟨by decide, fun z hz => (by cases hz)⟩, ⟨rfl, fun z hz => (by cases hz), List.nodup_nil, fun z hz => (by cases hz)⟩, fun n h1 h2 => ?_⟩
  · obtain rfl : t = [] := by simpa [Im.g0] using ht
    decide
  · obtain rfl : t = [] := by simpa [Im.g0] using ht
    exact fun f hf => by cases hf
  · have : n ≤ 0 := h2
    omega
theorem wng0 : Im.wNG (1, [], [[]], [], []) = Im.g0 := rfl

end Go.Proofs.YtblbiikfipcbcaaGreatDoor

/-
  Images, the reader: Read.
-/
set_option linter.unusedVariables false
set_option maxRecDepth 20000
namespace Go.Proofs.YtblbiikfipcbcaaGreatDoor
open Go.RowKit Go.Shelf

/-- A graph that is read, and still is, whatever else is laid where graphs lie. -/
def Kgr (w' : World) (vo vs vh vr vq : Value) (g : Im.Gr) (N : Nat) : Prop := ∀ (w2 : World) (F : List Nat), Kg.Touch F w' w2 → (∀ k, k ∈ F → ∀ cs t', w'.heap[k]? = some (.cells cs t' (0, 0)) → t' = 28) → ∃ os ts, Grd w2.heap.size w2 vo vs vh vr vq os ts g ∧ gsz os ts g ≤ N

/-- What Read answers of bytes: the graph, or the place and the first fault. -/
def Rres (bs : List Nat) (e : Ending) (w' : World) : Prop := match Im.dec bs with
  | .error (pl, k) => e = .returned (.tuple #[.agg (gcs (.slice none 0 0) (.slice none 0 0) (.slice none 0 0) (.slice none 0 0) (.slice none 0 0) 0), .int .i64 (pl : Int), .int .i64 (k : Int)])
  | .ok n => (¬ MB (Im.wNG n) ∧ e = .returned (.tuple #[.agg (gcs (.slice none 0 0) (.slice none 0 0) (.slice none 0 0) (.slice none 0 0) (.slice none 0 0) 0), .int .i64 0, .int .i64 164])) ∨ (MB (Im.wNG n) ∧ ∃ vo vs vh vr vq, e = .returned (.tuple #[.agg (gcs vo vs vh vr vq (Im.wNG n).next), .int .i64 0, .int .i64 0]) ∧ Kgr w' vo vs vh vr vq (Im.wNG n) bs.length)

set_option maxHeartbeats 4000000 in
theorem read_leaves {w w1 : World} {A : Nat} {bs : List Nat} {x0 x1 x5 x6 x7 x8 x9 : Value} (pl why : Int) (hy : ¬ why = 0) (B1 : Below w.heap.size w w1) (hA : w.heap.size = A)
    (hG1 : w1.heap[A]? = some (.cells (gcs (.slice none 0 0) (.slice none 0 0) (.slice none 0 0) (.slice none 0 0) (.slice none 0 0) 0) 28 (0, 0))) (hI1 : w1.heap[A + 1]? = some (.cells #[.int .i64 0] 3 (0, 0))) (hE1 : w1.heap[A + 2]? = some (.cells #[.int .i64 0] 42 (0, 0)))
    (hR : ∀ w', Rres bs (.returned (.tuple #[.agg (gcs (.slice none 0 0) (.slice none 0 0) (.slice none 0 0) (.slice none 0 0) (.slice none 0 0) 0), .int .i64 pl, .int .i64 why])) w') :
    bodyPostD Tryz.prog Tryz.f6 (fun e w' => Below w.heap.size w w' ∧ Rres bs e w') (Exit.panic (thrown pl why)) { tmps := #[x0, x1, .pointer (some ⟨A, 0, none⟩), .pointer (some ⟨A + 1, 0, none⟩), .pointer (some ⟨A + 1 + 1, 0, none⟩), x5, x6, x7, x8, x9], defers := [{ target := Target.fn (Fn.func 19) #[.pointer (some ⟨A + 1, 0, none⟩), .pointer (some ⟨A + 1 + 1, 0, none⟩)], args := #[] }] } w1 := by
  refine leaves_cons (f := 19) (args := #[.pointer (some ⟨A + 1, 0, none⟩), .pointer (some ⟨A + 2, 0, none⟩)]) (by simp) (by simp [go_sem]) ?_
  refine (read1_thrown (A + 1) (A + 2) pl why hy w1 hI1 hE1 (by omega)).mono ?_
  rintro e u' w2 ⟨rfl, rfl, t2, h1, h2⟩
  have hG2 := (t2.block A (Kg.heap_lt hG1) (by simp)).trans hG1
  have y0 := (Kg.heap_cell hG2 0).trans (show _ = some (.slice none 0 0) from rfl)
  have y1 := (Kg.heap_cell hG2 1).trans (show _ = some (.slice none 0 0) from rfl)
  have y2 := (Kg.heap_cell hG2 2).trans (show _ = some (.slice none 0 0) from rfl)
  have y3 := (Kg.heap_cell hG2 3).trans (show _ = some (.slice none 0 0) from rfl)
  have y4 := (Kg.heap_cell hG2 4).trans (show _ = some (.slice none 0 0) from rfl)
  have y5 := (Kg.heap_cell hG2 5).trans (show _ = some (.int .u64 0) from rfl)
  have z1 := (Kg.heap_cell h1 0).trans (show _ = some (.int .i64 pl) from rfl)
  have z2 := (Kg.heap_cell h2 0).trans (show _ = some (.int .i64 why) from rfl)
  have B2 : Below w.heap.size w w2 := B1.trans (t2.below B1.size (fun x hx => by simp at hx; omega))
  refine ⟨.tuple #[.agg (gcs (.slice none 0 0) (.slice none 0 0) (.slice none 0 0) (.slice none 0 0) (.slice none 0 0) 0), .int .i64 pl, .int .i64 why], ?_, B2, hR w2⟩
  simp [results, Tryz.results6, go_sem, y0, y1, y2, y3, y4, y5, z1, z2]

theorem touch6 (w : World) (A : Nat) (a b c d e f : Value) : Kg.Touch [A] w ((((((w.setCell ⟨A, 0, none⟩ a).setCell ⟨A, 1, none⟩ b).setCell ⟨A, 2, none⟩ c).setCell ⟨A, 3, none⟩ d).setCell ⟨A, 4, none⟩ e).setCell ⟨A, 5, none⟩ f) := by
  refine Kg.Touch.trans ?_ (Kg.Touch.setCell _ _ _ (by simp))
  refine Kg.Touch.trans ?_ (Kg.Touch.setCell _ _ _ (by simp))
  refine Kg.Touch.trans ?_ (Kg.Touch.setCell _ _ _ (by simp))
  refine Kg.Touch.trans ?_ (Kg.Touch.setCell _ _ _ (by simp))
  exact Kg.Touch.trans (Kg.Touch.setCell _ _ _ (by simp)) (Kg.Touch.setCell _ _ _ (by simp))

set_option maxHeartbeats 8000000 in
theorem iRead_any {w : World} {n0 : Nat} {v : Value} {bs : List Nat} (hl : Lrd n0 w v .u8 (bs.map Int.ofNat)) (hn0 : n0 ≤ w.heap.size) (hn : bs.length ≤ 1000000000000) (hby : ∀ x, x ∈ bs → x < 256) (hL : Laid w) :
    Calls Tryz.prog 6 #[v] w fun e w' => Below w.heap.size w w' ∧ Rres bs e w' := by
  have hmf : ∀ (fn : Fn) (first cap : Array Value) (w : World), (Instr.makeFunc fn first cap).run Tryz.prog w = .ok (.func fn first cap) w := fun _ _ _ _ => rfl
  obtain ⟨av, cv, rfl, -, -⟩ := hl.byte
  go_enter_defers Tryz.func6, Tryz.ntmps6
  go_upto_region 3 with fail
  have hl1 := hl.mono hn0
  clear hl hn0
  have a0 := Below.alloc (Below.refl w.heap.size w) (Nat.le_refl _) (.cells (gcs (.slice none 0 0) (.slice none 0 0) (.slice none 0 0) (.slice none 0 0) (.slice none 0 0) 0) 28)
  have g0 := heap_alloc_new w (.cells (gcs (.slice none 0 0) (.slice none 0 0) (.slice none 0 0) (.slice none 0 0) (.slice none 0 0) 0) 28 (0, 0))
  have s0 : (w.alloc (.cells (gcs (.slice none 0 0) (.slice none 0 0) (.slice none 0 0) (.slice none 0 0) (.slice none 0 0) 0) 28)).heap.size = w.heap.size + 1 := by simp
  generalize w.alloc (.cells (gcs (.slice none 0 0) (.slice none 0 0) (.slice none 0 0) (.slice none 0 0) (.slice none 0 0) 0) 28) = W0 at *
  have a1 := Below.alloc a0 a0.size (.cells #[.int .i64 0] 3)
  have g1 := heap_alloc_new W0 (.cells #[.int .i64 0] 3 (0, 0))
  have f1 := (Below.heap_alloc W0 (.cells #[.int .i64 0] 3 (0, 0)) _ (Kg.heap_lt g0)).trans g0
  have s1 : (W0.alloc (.cells #[.int .i64 0] 3)).heap.size = w.heap.size + 2 := by simp [s0]
  rw [s0] at g1
  generalize W0.alloc (.cells #[.int .i64 0] 3) = W1 at *
  have a2 := Below.alloc a1 a1.size (.cells #[.int .i64 0] 42)
  have g2 := heap_alloc_new W1 (.cells #[.int .i64 0] 42 (0, 0))
  have f2 := (Below.heap_alloc W1 (.cells #[.int .i64 0] 42 (0, 0)) _ (Kg.heap_lt f1)).trans f1
  have k2 := (Below.heap_alloc W1 (.cells #[.int .i64 0] 42 (0, 0)) _ (Kg.heap_lt g1)).trans g1
  have s2 : (W1.alloc (.cells #[.int .i64 0] 42)).heap.size = w.heap.size + 3 := by simp [s1]
  rw [s1] at g2
  generalize W1.alloc (.cells #[.int .i64 0] 42) = W2 at *
  have a3 := Below.alloc a2 a2.size (.cells #[.slice av bs.length cv, .int .i64 0] 70)
  have hR := heap_alloc_new W2 (.cells #[.slice av bs.length cv, .int .i64 0] 70 (0, 0))
  have hG := (Below.heap_alloc W2 (.cells #[.slice av bs.length cv, .int .i64 0] 70 (0, 0)) _ (Kg.heap_lt f2)).trans f2
  have hI := (Below.heap_alloc W2 (.cells #[.slice av bs.length cv, .int .i64 0] 70 (0, 0)) _ (Kg.heap_lt k2)).trans k2
  have hE := (Below.heap_alloc W2 (.cells #[.slice av bs.length cv, .int .i64 0] 70 (0, 0)) _ (Kg.heap_lt g2)).trans g2
  rw [s2] at hR
  generalize W2.alloc (.cells #[.slice av bs.length cv, .int .i64 0] 70) = W at *
  clear a0 a1 a2 g0 g1 g2 f1 f2 k2 s0 s1 s2 W0 W1 W2
  have hRd : Rdr W w.heap.size (w.heap.size + 3) (.slice av bs.length cv) bs 0 := ⟨hR, hl1.below a3, by omega, Nat.zero_le _, hn⟩
  have hC := rgraph_any hRd hby (fun w' b' => hL.keep (a3.trans b'))
  have A3 : Hid (Below w.heap.size w W) := a3
  clear hl1 hL hRd hR a3
  go_wp2_with fail
  refine hC.mono ?_
  rintro e w1 ⟨t1, h1⟩
  have hG1 := (t1.block _ (Kg.heap_lt hG) (by simp)).trans hG
  have hI1 := (t1.block _ (Kg.heap_lt hI) (by simp)).trans hI
  have hE1 := (t1.block _ (Kg.heap_lt hE) (by simp)).trans hE
  have B1 : Hid (Below w.heap.size w w1) := A3.out.trans (t1.below A3.out.size (fun x hx => by simp at hx; omega))
  clear hC t1 hG hI hE A3
  unfold Gres at h1
  cases hd : Im.dec bs with
  | error pk =>
    obtain ⟨pl, k⟩ := pk
    rw [hd] at h1
    simp only at h1
    subst h1
    have hk := Im.dec_err hd
    exact read_leaves (pl : Int) (k : Int) (by simp only at hk; omega) B1.out rfl hG1 hI1 hE1 (fun w' => by unfold Rres; rw [hd])
  | ok n =>
    rw [hd] at h1
    simp only at h1
    rcases h1 with ⟨hm, rfl⟩ | ⟨hm, vo, vs, vh, vr, vq, rfl, HV⟩
    · exact read_leaves 0 164 (by omega) B1.out rfl hG1 hI1 hE1 (fun w' => by unfold Rres; rw [hd]; exact .inl ⟨hm, rfl⟩)
    have Hm : Hid (MB (Im.wNG n)) := hm
    have Hd : Hid (Im.dec bs = .ok n) := hd
    have HV1 : Hid (Vall n vo vs vh vr vq w1) := HV
    obtain ⟨hOk, hEn⟩ := Im.enc_dec hby hd
    have hEl : (Im.ngE n).length ≤ bs.length := by rw [hEn, Im.enc_len]; omega
    have HOk : Hid (Im.ngOk n ∧ (Im.ngE n).length ≤ bs.length) := ⟨hOk, hEl⟩
    obtain ⟨os, ts, G1, G2, G3⟩ := grd_of HV.1 HV.2.1 HV.2.2.1 HV.2.2.2.1 (Lrd.of_row HV.2.2.2.2) hOk (by omega)
    obtain ⟨aa, ac, rfl, -⟩ := G1.ob
    obtain ⟨ba, bc, rfl, -⟩ := G1.sl
    obtain ⟨ca, cc, rfl, -, -⟩ := G1.hs
    obtain ⟨da, dc, rfl, -, -⟩ := G1.rg
    obtain ⟨ea, ec, rfl, -, -⟩ := G1.qu
    generalize hlo : os.length = lo at *
    generalize hls : ts.length = ls at *
    generalize hlh : (Im.wNG n).hs.length = lh at *
    generalize hlr : (Im.wNG n).rg.length = lr at *
    generalize hlq : (Im.wNG n).qu.length = lq at *
    clear hm hd HV hOk hEn hEl G1 G2 G3 hlo hls hlh hlr hlq os ts
    generalize hN : ((Im.wNG n).next : Int) = N
    have HN : Hid (((Im.wNG n).next : Int) = N) := hN
    clear hN
    have HG1 : Hid (w1.heap[w.heap.size]? = some (.cells (gcs (.slice none 0 0) (.slice none 0 0) (.slice none 0 0) (.slice none 0 0) (.slice none 0 0) 0) 28 (0, 0))) := hG1
    have HI1 : Hid (w1.heap[w.heap.size + 1]? = some (.cells #[.int .i64 0] 3 (0, 0))) := hI1
    have HE1 : Hid (w1.heap[w.heap.size + 2]? = some (.cells #[.int .i64 0] 42 (0, 0))) := hE1
    have hE1 : w1.heap[w.heap.size + 1 + 1]? = some (.cells #[.int .i64 0] 42 (0, 0)) := hE1
    have z0 := (Kg.heap_cell hG1 0).trans (show _ = some (.slice none 0 0) from rfl)
    have z1 := (Kg.heap_cell hG1 1).trans (show _ = some (.slice none 0 0) from rfl)
    have z2 := (Kg.heap_cell hG1 2).trans (show _ = some (.slice none 0 0) from rfl)
    have z3 := (Kg.heap_cell hG1 3).trans (show _ = some (.slice none 0 0) from rfl)
    have z4 := (Kg.heap_cell hG1 4).trans (show _ = some (.slice none 0 0) from rfl)
    have z5 := (Kg.heap_cell hG1 5).trans (show _ = some (.int .u64 0) from rfl)
    have f0 := Kg.heap_frozen hG1 0
    have f1 := Kg.heap_frozen hG1 1
    have f2 := Kg.heap_frozen hG1 2
    have f3 := Kg.heap_frozen hG1 3
    have f4 := Kg.heap_frozen hG1 4
    have f5 := Kg.heap_frozen hG1 5
    have z6 := (Kg.heap_cell hI1 0).trans (show _ = some (.int .i64 0) from rfl)
    have f6 := Kg.heap_frozen hI1 0
    have z7 := (Kg.heap_cell hE1 0).trans (show _ = some (.int .i64 0) from rfl)
    have f7 := Kg.heap_frozen hE1 0
    clear hG1 hI1 hE1
    go_wp2
    clear z0 z1 z2 z3 z4 z5 z6 z7 f0 f1 f2 f3 f4 f5 f6 f7 hmf
    have s0 := Kg.heap_set HG1.out 0 (.slice aa lo ac)
    have s1 := Kg.heap_set s0 1 (.slice ba ls bc)
    have s2 := Kg.heap_set s1 2 (.slice ca lh cc)
    have s3 := Kg.heap_set s2 3 (.slice da lr dc)
    have s4 := Kg.heap_set s3 4 (.slice ea lq ec)
    have s5 := Kg.heap_set s4 5 (.int .u64 N)
    have t6 := touch6 w1 w.heap.size (.slice aa lo ac) (.slice ba ls bc) (.slice ca lh cc) (.slice da lr dc) (.slice ea lq ec) (.int .u64 N)
    clear s0 s1 s2 s3 s4
    generalize ((((((w1.setCell ⟨w.heap.size, 0, none⟩ (.slice aa lo ac)).setCell ⟨w.heap.size, 1, none⟩ (.slice ba ls bc)).setCell ⟨w.heap.size, 2, none⟩ (.slice ca lh cc)).setCell ⟨w.heap.size, 3, none⟩ (.slice da lr dc)).setCell ⟨w.heap.size, 4, none⟩ (.slice ea lq ec)).setCell ⟨w.heap.size, 5, none⟩ (.int .u64 N)) = w6 at *
    have s5 : w6.heap[w.heap.size]? = some (.cells (gcs (.slice aa lo ac) (.slice ba ls bc) (.slice ca lh cc) (.slice da lr dc) (.slice ea lq ec) N) 28 (0, 0)) := s5
    have hI6 := (t6.block _ (Kg.heap_lt HI1.out) (by simp)).trans HI1.out
    have hE6 := (t6.block _ (Kg.heap_lt HE1.out) (by simp)).trans HE1.out
    have s6 := Kg.heap_set hI6 0 (.int .i64 0)
    have t7 : Kg.Touch [w.heap.size + 1] w6 (w6.setCell ⟨w.heap.size + 1, 0, none⟩ (.int .i64 0)) := Kg.Touch.setCell _ _ _ (by simp)
    generalize w6.setCell ⟨w.heap.size + 1, 0, none⟩ (.int .i64 0) = w7 at *
    have hE7 := (t7.block _ (Kg.heap_lt hE6) (by simp)).trans hE6
    have s7 := Kg.heap_set hE7 0 (.int .i64 0)
    have t8 : Kg.Touch [w.heap.size + 2] w7 (w7.setCell ⟨w.heap.size + 1 + 1, 0, none⟩ (.int .i64 0)) := Kg.Touch.setCell _ _ _ (by simp)
    have e8 : w7.setCell ⟨w.heap.size + 2, 0, none⟩ (.int .i64 0) = w7.setCell ⟨w.heap.size + 1 + 1, 0, none⟩ (.int .i64 0) := rfl
    rw [e8] at s7
    clear e8
    generalize w7.setCell ⟨w.heap.size + 1 + 1, 0, none⟩ (.int .i64 0) = w8 at *
    have tt : Kg.Touch [w.heap.size] w1 w8 := ⟨t8.os.trans (t7.os.trans t6.os), t8.tape.trans (t7.tape.trans t6.tape), t8.output.trans (t7.output.trans t6.output), Nat.le_trans t6.size (Nat.le_trans t7.size t8.size), fun k hk hn => by
      by_cases h1 : k = w.heap.size + 1
      · subst h1
        rw [t8.block _ (Nat.lt_of_lt_of_le hk (Nat.le_trans t6.size t7.size)) (by simp), s6, HI1.out]
        rfl
      · by_cases h2 : k = w.heap.size + 2
        · subst h2
          rw [s7, HE1.out]
          rfl
        · rw [t8.block k (Nat.lt_of_lt_of_le hk (Nat.le_trans t6.size t7.size)) (by simpa using h2), t7.block k (Nat.lt_of_lt_of_le hk t6.size) (by simpa using h1), t6.block k hk hn]⟩
    have hG8 := (t8.block _ (Nat.lt_of_lt_of_le (Kg.heap_lt s5) t7.size) (by simp)).trans ((t7.block _ (Kg.heap_lt s5) (by simp)).trans s5)
    have hI8 := (t8.block _ (Kg.heap_lt s6) (by simp)).trans s6
    have V8 := HV1.out.st tt (fun k hk cs t' hc => by simp only [List.mem_cons, List.not_mem_nil, or_false] at hk; subst hk; rw [HG1.out] at hc; cases hc; decide)
    have B8 : Below w.heap.size w w8 := B1.out.trans (tt.below B1.out.size (fun x hx => by simp at hx; omega))
    clear tt t6 t7 t8 s5 s6 hI6 hE6 hE7 HV1 HG1 HI1 HE1 B1
    refine leaves_cons (f := 19) (args := #[.pointer (some ⟨w.heap.size + 1, 0, none⟩), .pointer (some ⟨w.heap.size + 2, 0, none⟩)]) (by simp) (by simp [go_sem]) ?_
    refine (read1_idle (w.heap.size + 1) (w.heap.size + 2) w8).mono ?_
    rintro e u' w9 ⟨rfl, rfl, b9⟩
    have hG9 := (b9.block _ (Kg.heap_lt hG8)).trans hG8
    have hI9 := (b9.block _ (Kg.heap_lt hI8)).trans hI8
    have hE9 := (b9.block _ (Kg.heap_lt s7)).trans s7
    have V9 := V8.st (Kg.Touch.of_below b9 []) (fun k hk => by cases hk)
    have B9 : Below w.heap.size w w9 := B8.trans (b9.mono B8.size)
    have y0 := (Kg.heap_cell hG9 0).trans (show _ = some (.slice aa lo ac) from rfl)
    have y1 := (Kg.heap_cell hG9 1).trans (show _ = some (.slice ba ls bc) from rfl)
    have y2 := (Kg.heap_cell hG9 2).trans (show _ = some (.slice ca lh cc) from rfl)
    have y3 := (Kg.heap_cell hG9 3).trans (show _ = some (.slice da lr dc) from rfl)
    have y4 := (Kg.heap_cell hG9 4).trans (show _ = some (.slice ea lq ec) from rfl)
    have y5 := (Kg.heap_cell hG9 5).trans (show _ = some (.int .u64 N) from rfl)
    have z1 := (Kg.heap_cell hI9 0).trans (show _ = some (.int .i64 0) from rfl)
    have z2 := (Kg.heap_cell hE9 0).trans (show _ = some (.int .i64 0) from rfl)
    refine ⟨.tuple #[.agg (gcs (.slice aa lo ac) (.slice ba ls bc) (.slice ca lh cc) (.slice da lr dc) (.slice ea lq ec) N), .int .i64 0, .int .i64 0], ?_, B9, ?_⟩
    · simp [results, Tryz.results6, go_sem, y0, y1, y2, y3, y4, y5, z1, z2]
    · unfold Rres
      rw [Hd.out]
      refine .inr ⟨Hm.out, _, _, _, _, _, by rw [HN.out], fun w2 F tF hF => ?_⟩
      have V2 := V9.st tF (fun k hk cs t' hc => by rw [hF k hk cs t' hc]; decide)
      obtain ⟨os, ts, G1, G2, G3⟩ := grd_of V2.1 V2.2.1 V2.2.2.1 V2.2.2.2.1 (Lrd.of_row V2.2.2.2.2) HOk.out.1 (by have := HOk.out.2; omega)
      exact ⟨os, ts, G1, Nat.le_trans G2 HOk.out.2⟩

end Go.Proofs.YtblbiikfipcbcaaGreatDoor

