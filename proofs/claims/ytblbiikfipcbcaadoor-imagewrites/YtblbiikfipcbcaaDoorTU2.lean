/-
  Images: something in each of a graph's lists is another thing now.
-/
import Derived.Test.YtblbiikfipcbcaaDoorTU1
import Derived.Deep.CutRange
set_option linter.unusedVariables false
set_option maxRecDepth 20000
namespace Go.Proofs.YtblbiikfipcbcaaDoor
open Go.RowKit Go.Shelf

/-- A graph that was lent, as great as it was. -/
structure Tn (w0 w : World) (N : Nat → Nat) (n1 : Nat) (vo vs vh vr vq : Value) (sz nx lo lt lh : Nat) : Prop where
  l : ∃ os ts g, Lent w N [] n1 vo vs vh vr vq os ts g ∧ (∀ x, x ∈ os → obR x.o) ∧ gsz os ts g = sz ∧ g.next = nx ∧ os.length = lo ∧ ts.length = lt ∧ g.hs.length = lh
  k : Keeps w0 w N
  b : Below n1 w0 w

theorem Tn.set {w0 w : World} {N : Nat → Nat} {n1 : Nat} {vo vs vh vr vq : Value} {sz nx lo lt lh b f : Nat} {k : IntKind} {z z' : Int} (h : Tn w0 w N n1 vo vs vh vr vq sz nx lo lt lh) (hc : w.cell? ⟨b, f, none⟩ = some (.int k z)) (hf : f < N b) (hb : n1 ≤ b) (hn : n1 ≤ w.heap.size) (hr : inR k z') : Tn w0 (w.setCell ⟨b, f, none⟩ (.int k z')) N n1 vo vs vh vr vq sz nx lo lt lh := by
  obtain ⟨os, ts, g, h1, h2, h3, h4, h5, h6, h7⟩ := h.l
  obtain ⟨os', ts', g', e1, e2, e3, e4, e5, e6, e7⟩ := h1.shp (Shp.set hc hr) h2
  refine ⟨⟨os', ts', g', e1, e2, by rw [e3, h3], by rw [e4, h4], by rw [e5, h5], by rw [e6, h6], by rw [e7, h7]⟩, h.k.trans ⟨by rw [World.size_setCell]; exact Nat.le_refl _, fun b' f' _ hf' => World.cell?_setCell_other _ _ _ _ (fun e => by cases e; omega)⟩, h.b.trans ((Kg.Touch.setCell (F := [b]) w ⟨b, f, none⟩ _ (by simp)).below hn (fun y hy => by simp at hy; omega))⟩

theorem Tn.grow {w0 w w' : World} {N : Nat → Nat} {n1 : Nat} {vo vs vh vr vq : Value} {sz nx lo lt lh : Nat} (h : Tn w0 w N n1 vo vs vh vr vq sz nx lo lt lh) (hb : Below w.heap.size w w') (hn : n1 ≤ w.heap.size) : Tn w0 w' N n1 vo vs vh vr vq sz nx lo lt lh := by
  obtain ⟨os, ts, g, h1, h2⟩ := h.l
  exact ⟨⟨os, ts, g, h1.stp (Stp.below hb), h2⟩, h.k.trans (Keeps.below hb), h.b.trans (hb.mono hn)⟩

theorem cell_keep {w : World} {a c : Addr} {k : IntKind} {z : Int} {u v : Value} (ha : w.cell? a = some (.int k z)) (hc : w.cell? c = some u) (hu : ∀ k z, u ≠ .int k z) : (w.setCell a v).cell? c = some u :=
  (World.cell?_setCell_other _ _ _ _ (fun e => by subst e; rw [ha] at hc; exact hu k z (Option.some.inj hc).symm)).trans hc

theorem inR_i (x y : Int) : inR .i64 (bits .xor .i64 x y) := by
  refine ⟨fun _ => ?_, fun h => by cases h⟩
  unfold bits
  simp only
  rw [IntKind.wrap_i64]
  unfold InI
  omega
theorem inR_u (x y : Int) : inR .u64 (bits .xor .u64 x y) := by
  refine ⟨fun h => (by cases h), fun _ => ?_⟩
  unfold bits
  simp only
  rw [IntKind.wrap_u64]
  omega

/-- What holds at each step. -/
structure Tq (w0 w : World) (N : Nat → Nat) (n1 bo bs bh : Nat) (vr vq : Value) (sz nx lo lt lh : Nat) : Prop where
  t : Tn w0 w N n1 (.slice (some ⟨bo, 0, none⟩) lo (lo + 8)) (.slice (some ⟨bs, 0, none⟩) lt (lt + 8)) (.slice (some ⟨bh, 0, none⟩) lh (lh + 40)) vr vq sz nx lo lt lh
  x0 : w.cell? ⟨w0.heap.size, 0, none⟩ = some (.slice (some ⟨bo, 0, none⟩) lo (lo + 8))
  x1 : w.cell? ⟨w0.heap.size, 1, none⟩ = some (.slice (some ⟨bs, 0, none⟩) lt (lt + 8))
  x2 : w.cell? ⟨w0.heap.size, 2, none⟩ = some (.slice (some ⟨bh, 0, none⟩) lh (lh + 40))
  s : n1 ≤ w.heap.size

theorem Tq.set {w0 w : World} {N : Nat → Nat} {n1 bo bs bh : Nat} {vr vq : Value} {sz nx lo lt lh b f : Nat} {k : IntKind} {z z' : Int} (h : Tq w0 w N n1 bo bs bh vr vq sz nx lo lt lh) (hc : w.cell? ⟨b, f, none⟩ = some (.int k z)) (hf : f < N b) (hb : n1 ≤ b) (hr : inR k z') : Tq w0 (w.setCell ⟨b, f, none⟩ (.int k z')) N n1 bo bs bh vr vq sz nx lo lt lh :=
  ⟨h.t.set hc hf hb h.s hr, cell_keep hc h.x0 (fun _ _ e => by cases e), cell_keep hc h.x1 (fun _ _ e => by cases e), cell_keep hc h.x2 (fun _ _ e => by cases e), by rw [World.size_setCell]; exact h.s⟩

theorem Tq.drew {w0 w : World} {N : Nat → Nat} {n1 bo bs bh : Nat} {vr vq : Value} {sz nx lo lt lh : Nat} (h : Tq w0 w N n1 bo bs bh vr vq sz nx lo lt lh) : Tq w0 w.drew N n1 bo bs bh vr vq sz nx lo lt lh :=
  ⟨h.t.grow (Below.refl _ _).drew h.s, h.x0, h.x1, h.x2, h.s⟩

theorem osum_take (l : List OL) (k : Nat) : osum (l.take k) ≤ osum l := by
  have h : osum (l.take k ++ l.drop k) = osum (l.take k) + osum (l.drop k) := by
    unfold osum
    rw [List.map_append, List.sum_append]
  rw [List.take_append_drop] at h
  omega

theorem Tq.ptrs {w0 w : World} {N : Nat → Nat} {n1 bo bs bh : Nat} {vr vq : Value} {sz nx lo lt lh i : Nat} (h : Tq w0 w N n1 bo bs bh vr vq sz nx lo lt lh) (hi : i < lo) : ∃ b n, w.cell? ⟨bo, i * 5 + 3, none⟩ = some (.slice (some ⟨b, 0, none⟩) n (n + 40)) ∧ (0 < n → ∃ z, w.cell? ⟨b, 0, none⟩ = some (.int .i64 z) ∧ w.frozen? ⟨b, 0, none⟩ = false ∧ 0 < N b ∧ n1 ≤ b) ∧ n ≤ sz := by
  obtain ⟨os, ts, g, h1, h2, h3, h4, h5, h6, h7⟩ := h.t.l
  obtain ⟨bo', go⟩ := h1.o
  have ebo := go.is
  rw [h5] at ebo
  cases ebo
  have hz : os[i]? = some (os[i]'(by omega)) := List.getElem?_eq_getElem _
  generalize os[i]'(by omega) = x at hz
  obtain ⟨hc, ⟨b, hp⟩, -⟩ := go.c i x hz
  have c3 : w.cell? ⟨bo, i * 5 + 3, none⟩ = some x.vp := hc 3 (by omega)
  rw [hp.is] at c3
  refine ⟨b, x.o.ps.length, c3, fun hn => ?_, ?_⟩
  · have hy : x.o.ps[0]? = some (x.o.ps[0]'hn) := List.getElem?_eq_getElem hn
    exact ⟨_, hp.c 0 _ hy, hp.fr 0, by rw [hp.n]; exact hn, hp.lo⟩
  · have h8 := osum_snoc hz
    have h9 : osum (os.take (i + 1)) ≤ osum os := osum_take os (i + 1)
    unfold gsz at h3
    omega

theorem Tq.raws {w0 w : World} {N : Nat → Nat} {n1 bo bs bh : Nat} {vr vq : Value} {sz nx lo lt lh i : Nat} (h : Tq w0 w N n1 bo bs bh vr vq sz nx lo lt lh) (hi : i < lo) : ∃ b n, w.cell? ⟨bo, i * 5 + 4, none⟩ = some (.slice (some ⟨b, 0, none⟩) n (n + 40)) ∧ (0 < n → ∃ z, w.cell? ⟨b, 0, none⟩ = some (.int .u64 z) ∧ w.frozen? ⟨b, 0, none⟩ = false ∧ 0 < N b ∧ n1 ≤ b) ∧ n ≤ sz := by
  obtain ⟨os, ts, g, h1, h2, h3, h4, h5, h6, h7⟩ := h.t.l
  obtain ⟨bo', go⟩ := h1.o
  have ebo := go.is
  rw [h5] at ebo
  cases ebo
  have hz : os[i]? = some (os[i]'(by omega)) := List.getElem?_eq_getElem _
  generalize os[i]'(by omega) = x at hz
  obtain ⟨hc, -, b, hp⟩ := go.c i x hz
  have c3 : w.cell? ⟨bo, i * 5 + 4, none⟩ = some x.vr := hc 4 (by omega)
  have hpi := hp.is
  rw [List.length_map] at hpi
  rw [hpi] at c3
  refine ⟨b, x.o.rs.length, c3, fun hn => ?_, ?_⟩
  · have hy : (x.o.rs.map Int.ofNat)[0]? = some ((x.o.rs.map Int.ofNat)[0]'(by rw [List.length_map]; exact hn)) := List.getElem?_eq_getElem _
    exact ⟨_, hp.c 0 _ hy, hp.fr 0, by rw [hp.n, List.length_map]; exact hn, hp.lo⟩
  · have h8 := osum_snoc hz
    have h9 : osum (os.take (i + 1)) ≤ osum os := osum_take os (i + 1)
    unfold gsz at h3
    omega

theorem Tq.slot {w0 w : World} {N : Nat → Nat} {n1 bo bs bh : Nat} {vr vq : Value} {sz nx lo lt lh : Nat} (h : Tq w0 w N n1 bo bs bh vr vq sz nx lo lt lh) (hi : 0 < lt) : ∃ b n, w.cell? ⟨bs, 0, none⟩ = some (.slice (some ⟨b, 0, none⟩) n (n + 8)) ∧ (0 < n → ∃ b' n', w.cell? ⟨b, 0, none⟩ = some (.slice (some ⟨b', 0, none⟩) n' (n' + 40)) ∧ (0 < n' → ∃ z, w.cell? ⟨b', 0, none⟩ = some (.int .i64 z) ∧ w.frozen? ⟨b', 0, none⟩ = false ∧ 0 < N b' ∧ n1 ≤ b')) := by
  obtain ⟨os, ts, g, h1, h2, h3, h4, h5, h6, h7⟩ := h.t.l
  obtain ⟨bs', gs⟩ := h1.s
  have ebs := gs.is
  rw [h6] at ebs
  cases ebs
  have hz : ts[0]? = some (ts[0]'(by omega)) := List.getElem?_eq_getElem _
  generalize ts[0]'(by omega) = x at hz
  obtain ⟨hc, b, hp⟩ := gs.c 0 x hz
  rw [hp.is] at hc
  refine ⟨b, x.2.length, hc, fun hn => ?_⟩
  have hy : x.2[0]? = some (x.2[0]'hn) := List.getElem?_eq_getElem hn
  generalize x.2[0]'hn = y at hy
  obtain ⟨hc', b', hp'⟩ := hp.c 0 y hy
  rw [hp'.is] at hc'
  refine ⟨b', y.2.length, hc', fun hn' => ?_⟩
  have hu : y.2[0]? = some (y.2[0]'hn') := List.getElem?_eq_getElem hn'
  exact ⟨_, hp'.c 0 _ hu, hp'.fr 0, by rw [hp'.n]; exact hn', hp'.lo⟩

theorem Tq.hand {w0 w : World} {N : Nat → Nat} {n1 bo bs bh : Nat} {vr vq : Value} {sz nx lo lt lh : Nat} (h : Tq w0 w N n1 bo bs bh vr vq sz nx lo lt lh) (hi : 0 < lh) : ∃ z, w.cell? ⟨bh, 0, none⟩ = some (.int .i64 z) ∧ w.frozen? ⟨bh, 0, none⟩ = false ∧ 0 < N bh ∧ n1 ≤ bh := by
  obtain ⟨os, ts, g, h1, h2, h3, h4, h5, h6, h7⟩ := h.t.l
  obtain ⟨bh', gh⟩ := h1.h
  have ebh := gh.is
  rw [h7] at ebh
  cases ebh
  have hu : g.hs[0]? = some (g.hs[0]'(by omega)) := List.getElem?_eq_getElem _
  exact ⟨_, gh.c 0 _ hu, gh.fr 0, by rw [gh.n]; omega, gh.lo⟩

set_option maxHeartbeats 8000000 in
theorem turn16_any {w : World} {N : Nat → Nat} {n1 : Nat} {vo vs vh vr vq : Value} {sz nx lo lt lh : Nat} (h : Tn w w N n1 vo vs vh vr vq sz nx lo lt lh) (hsz : sz ≤ 16384) (hn : n1 ≤ w.heap.size) :
    Calls Tryd.prog 19 #[.agg (gcs vo vs vh vr vq nx)] w fun e w' => e = .returned (.tuple #[]) ∧ Tn w w' N n1 vo vs vh vr vq sz nx lo lt lh := by
  obtain ⟨os, ts, g, h1, h2, h3, h4, h5, h6, h7⟩ := h.l
  obtain ⟨bo, go⟩ := h1.o
  obtain ⟨bs, gs⟩ := h1.s
  obtain ⟨bh, gh⟩ := h1.h
  have eo : vo = .slice (some ⟨bo, 0, none⟩) lo (lo + 8) := by rw [← h5]; exact go.is
  have es : vs = .slice (some ⟨bs, 0, none⟩) lt (lt + 8) := by rw [← h6]; exact gs.is
  have eh : vh = .slice (some ⟨bh, 0, none⟩) lh (lh + 40) := by rw [← h7]; exact gh.is
  have hno : N bo = lo * 5 := by rw [← h5]; exact go.n
  have hlo : lo ≤ 16384 := by have : os.length ≤ gsz os ts g := (by unfold gsz szs; omega); omega
  have hlt : lt ≤ 16384 := by have : ts.length ≤ gsz os ts g := (by unfold gsz szs; omega); omega
  have hlh : lh ≤ 16384 := by have : g.hs.length ≤ gsz os ts g := (by unfold gsz szs; omega); omega
  have l1 : Below w.heap.size w (w.alloc (.cells (gcs vo vs vh vr vq nx) 29)) := Below.alloc (Below.refl _ _) (Nat.le_refl _) _
  have hx := heap_alloc_new w (.cells (gcs vo vs vh vr vq nx) 29 (0, 0))
  have HT : Hid (Tn w (w.alloc (.cells (gcs vo vs vh vr vq nx) 29)) N n1 vo vs vh vr vq sz nx lo lt lh) := h.grow l1 hn
  subst eo es eh
  have hWs : (w.alloc (.cells (gcs (.slice (some ⟨bo, 0, none⟩) lo (lo + 8)) (.slice (some ⟨bs, 0, none⟩) lt (lt + 8)) (.slice (some ⟨bh, 0, none⟩) lh (lh + 40)) vr vq nx) 29)).heap.size = w.heap.size + 1 := by simp
  generalize hW : w.alloc (.cells (gcs (.slice (some ⟨bo, 0, none⟩) lo (lo + 8)) (.slice (some ⟨bs, 0, none⟩) lt (lt + 8)) (.slice (some ⟨bh, 0, none⟩) lh (lh + 40)) vr vq nx) 29) = W at *
  have HQ : Hid (Tq w W N n1 bo bs bh vr vq sz nx lo lt lh) := ⟨HT.out, Kg.heap_cell hx 0, Kg.heap_cell hx 1, Kg.heap_cell hx 2, by omega⟩
  have x0 := HQ.out.x0
  clear h h1 h2 h3 h4 h5 h6 h7 go gs gh hx l1 HT
  go_enter Tryd.func19, Tryd.ntmps19
  go_upto_if 8 with fail
  go_cut [] from 3 to 57 (fun wq => Hid (Tq w wq N n1 bo bs bh vr vq sz nx lo lt lh))
  case first =>
    by_cases po : 0 < lo
    · have poi : (lo : Int) > 0 := by omega
      have hq3 : lo / 2 < lo := by omega
      have hq4 : (lo : Int) / 2 < (lo : Int) := by omega
      have hq5 : (0 : Int) ≤ (lo : Int) / 2 := by omega
      have hq6 : ¬ (lo : Int) / 2 < 0 := by omega
      obtain ⟨os, ts, g, h1, h2, h3, h4, h5, h6, h7⟩ := HQ.out.t.l
      obtain ⟨bo', go⟩ := h1.o
      have ebo := go.is
      rw [h5] at ebo
      cases ebo
      have hz : os[lo / 2]? = some (os[lo / 2]'(by omega)) := List.getElem?_eq_getElem _
      generalize os[lo / 2]'(by omega) = x at hz
      have c2 : W.cell? ⟨bo, lo / 2 * 5 + 2, none⟩ = some (.int .i64 x.o.site) := (go.c _ x hz).1 2 (by omega)
      have f2 : W.frozen? ⟨bo, lo / 2 * 5 + 2, none⟩ = false := go.fr _
      have HQ1 : Hid (Tq w (W.setCell ⟨bo, lo / 2 * 5 + 2, none⟩ (.int .i64 (bits .xor .i64 x.o.site 1))) N n1 bo bs bh vr vq sz nx lo lt lh) := HQ.out.set c2 (by rw [hno]; omega) go.l (inR_i _ _)
      clear h1 h2 h3 h4 h6 h7 go hz HQ h5
      go_upto_region 4 with fail
      go_cut [] from 4 to 21 (fun wq => Hid (Tq w wq N n1 bo bs bh vr vq sz nx lo lt lh))
      case first =>
        go_wp2
        go_meet
        case rel => exact HQ1
      clear HQ1 c2 f2 hq4 hq5 hq6 poi x0
      obtain ⟨W1, hW1⟩ : ∃ W1, W1 = wc := ⟨_, rfl⟩
      subst hW1
      have HQ1 := hcut
      clear hcut
      obtain ⟨b3, n3, c3, d3, e3⟩ := Tq.ptrs HQ1.out hq3
      by_cases pp : 0 < n3
      · have ppi : (n3 : Int) > 0 := by omega
        obtain ⟨z, hz, hfz, hfn, hb3⟩ := d3 pp
        have HQ3 : Hid (Tq w (W1.drew.setCell ⟨b3, 0, none⟩ (.int .i64 (bits .xor .i64 z 1))) N n1 bo bs bh vr vq sz nx lo lt lh) := HQ1.out.drew.set hz hfn hb3 (inR_i _ _)
        clear d3 HQ1
        go_upto_region 6 with fail
        refine Kg.quiet_tail 12 Kg.mixed (by kernel_rfl) ?_
        simp only [List.take_succ_cons, List.take_zero, List.drop_succ_cons, List.drop_zero]
        repeat (go_big_quiet_step (fail))
        refine wpQuiet_nil ?_
        go_upto_region 7 with fail
        change Code.wp _ _ _ _ (W1.drew.setCell ⟨b3, 0, none⟩ (.int .i64 (bits .xor .i64 z 1)))
        generalize W1.drew.setCell ⟨b3, 0, none⟩ (.int .i64 (bits .xor .i64 z 1)) = W3 at *
        clear hz hfz c3
        obtain ⟨b4, n4, c4, d4, e4⟩ := Tq.raws HQ3.out hq3
        by_cases pr : 0 < n4
        · have pri : (n4 : Int) > 0 := by omega
          obtain ⟨zr, hzr, hfr, hnr, hb4⟩ := d4 pr
          have HQ2 : Hid (Tq w (W3.drew.setCell ⟨b4, 0, none⟩ (.int .u64 (bits .xor .u64 zr 1))) N n1 bo bs bh vr vq sz nx lo lt lh) := HQ3.out.drew.set hzr hnr hb4 (inR_u _ _)
          clear d4 HQ3
          go_wp2_with fail
          refine Kg.quiet_tail 12 Kg.mixed (by kernel_rfl) ?_
          simp only [List.take_succ_cons, List.take_zero, List.drop_succ_cons, List.drop_zero]
          repeat (go_big_quiet_step (fail))
          refine wpQuiet_nil ?_
          go_wp2_with fail
          go_meet
          case rel => exact HQ2
        · have pri : ¬ (n4 : Int) > 0 := by omega
          go_wp2
          go_meet
          case rel => exact HQ3
      · have ppi : ¬ (n3 : Int) > 0 := by omega
        clear d3
        go_upto_region 7 with fail
        clear c3
        obtain ⟨b4, n4, c4, d4, e4⟩ := Tq.raws HQ1.out hq3
        by_cases pr : 0 < n4
        · have pri : (n4 : Int) > 0 := by omega
          obtain ⟨zr, hzr, hfr, hnr, hb4⟩ := d4 pr
          have HQ2 : Hid (Tq w (W1.drew.setCell ⟨b4, 0, none⟩ (.int .u64 (bits .xor .u64 zr 1))) N n1 bo bs bh vr vq sz nx lo lt lh) := HQ1.out.drew.set hzr hnr hb4 (inR_u _ _)
          clear d4 HQ1
          go_wp2_with fail
          refine Kg.quiet_tail 12 Kg.mixed (by kernel_rfl) ?_
          simp only [List.take_succ_cons, List.take_zero, List.drop_succ_cons, List.drop_zero]
          repeat (go_big_quiet_step (fail))
          refine wpQuiet_nil ?_
          go_wp2_with fail
          go_meet
          case rel => exact HQ2
        · have pri : ¬ (n4 : Int) > 0 := by omega
          go_wp2
          go_meet
          case rel => exact HQ1
    · have poi : ¬ (lo : Int) > 0 := by omega
      go_wp2
      go_meet
      case rel => exact HQ
  case rest =>
    clear HQ x0
    have x1 := hcut.out.x1
    have x2 := hcut.out.x2
    by_cases pt : 0 < lt
    · have pti : (lt : Int) > 0 := by omega
      obtain ⟨b5, n5, c5, d5⟩ := hcut.out.slot pt
      by_cases p5 : 0 < n5
      · have p5i : (n5 : Int) > 0 := by omega
        obtain ⟨b6, n6, c6, d6⟩ := d5 p5
        by_cases p6 : 0 < n6
        · have p6i : (n6 : Int) > 0 := by omega
          obtain ⟨z, hz, hfz, hfn, hb6⟩ := d6 p6
          have HQ2 : Hid (Tq w (wc.drew.setCell ⟨b6, 0, none⟩ (.int .i64 (bits .xor .i64 z 1))) N n1 bo bs bh vr vq sz nx lo lt lh) := hcut.out.drew.set hz hfn hb6 (inR_i _ _)
          clear d5 d6 hcut
          go_wp2_with fail
          refine Kg.quiet_tail 16 Kg.mixed (by kernel_rfl) ?_
          simp only [List.take_succ_cons, List.take_zero, List.drop_succ_cons, List.drop_zero]
          repeat (go_big_quiet_step (fail))
          refine wpQuiet_nil ?_
          go_upto_region 11 with fail
          change Code.wp _ _ _ _ (wc.drew.setCell ⟨b6, 0, none⟩ (.int .i64 (bits .xor .i64 z 1)))
          generalize wc.drew.setCell ⟨b6, 0, none⟩ (.int .i64 (bits .xor .i64 z 1)) = wD at *
          clear x1 x2 c5 c6 hz hfz
          have x2' := HQ2.out.x2
          by_cases ph : 0 < lh
          · have phi : (lh : Int) > 0 := by omega
            obtain ⟨zh, hzh, hfh, hnh, hbh⟩ := HQ2.out.hand ph
            have HF : Hid (Tq w (wD.drew.setCell ⟨bh, 0, none⟩ (.int .i64 (bits .xor .i64 zh 1))) N n1 bo bs bh vr vq sz nx lo lt lh) := HQ2.out.drew.set hzh hnh hbh (inR_i _ _)
            go_wp2_with fail
            refine Kg.quiet_tail 8 Kg.mixed (by kernel_rfl) ?_
            simp only [List.take_succ_cons, List.take_zero, List.drop_succ_cons, List.drop_zero]
            repeat (go_big_quiet_step (fail))
            refine wpQuiet_nil ?_
            go_wp2_with fail
            refine bodyPost_end (v := .tuple #[]) ?_ rfl ⟨rfl, HF.out.t⟩
            simp [results, Tryd.results19, go_sem]
          · have phi : ¬ (lh : Int) > 0 := by omega
            go_wp2
            refine bodyPost_end (v := .tuple #[]) ?_ rfl ⟨rfl, HQ2.out.t⟩
            simp [results, Tryd.results19, go_sem]
        · have p6i : ¬ (n6 : Int) > 0 := by omega
          clear d5 d6
          go_upto_region 11 with fail
          clear x1 x2 c5 c6
          have x2' := hcut.out.x2
          by_cases ph : 0 < lh
          · have phi : (lh : Int) > 0 := by omega
            obtain ⟨zh, hzh, hfh, hnh, hbh⟩ := hcut.out.hand ph
            have HF : Hid (Tq w (wc.drew.setCell ⟨bh, 0, none⟩ (.int .i64 (bits .xor .i64 zh 1))) N n1 bo bs bh vr vq sz nx lo lt lh) := hcut.out.drew.set hzh hnh hbh (inR_i _ _)
            go_wp2_with fail
            refine Kg.quiet_tail 8 Kg.mixed (by kernel_rfl) ?_
            simp only [List.take_succ_cons, List.take_zero, List.drop_succ_cons, List.drop_zero]
            repeat (go_big_quiet_step (fail))
            refine wpQuiet_nil ?_
            go_wp2_with fail
            refine bodyPost_end (v := .tuple #[]) ?_ rfl ⟨rfl, HF.out.t⟩
            simp [results, Tryd.results19, go_sem]
          · have phi : ¬ (lh : Int) > 0 := by omega
            go_wp2
            refine bodyPost_end (v := .tuple #[]) ?_ rfl ⟨rfl, hcut.out.t⟩
            simp [results, Tryd.results19, go_sem]
      · have p5i : ¬ (n5 : Int) > 0 := by omega
        clear d5
        go_upto_region 11 with fail
        clear x1 x2 c5
        have x2' := hcut.out.x2
        by_cases ph : 0 < lh
        · have phi : (lh : Int) > 0 := by omega
          obtain ⟨zh, hzh, hfh, hnh, hbh⟩ := hcut.out.hand ph
          have HF : Hid (Tq w (wc.drew.setCell ⟨bh, 0, none⟩ (.int .i64 (bits .xor .i64 zh 1))) N n1 bo bs bh vr vq sz nx lo lt lh) := hcut.out.drew.set hzh hnh hbh (inR_i _ _)
          go_wp2_with fail
          refine Kg.quiet_tail 8 Kg.mixed (by kernel_rfl) ?_
          simp only [List.take_succ_cons, List.take_zero, List.drop_succ_cons, List.drop_zero]
          repeat (go_big_quiet_step (fail))
          refine wpQuiet_nil ?_
          go_wp2_with fail
          refine bodyPost_end (v := .tuple #[]) ?_ rfl ⟨rfl, HF.out.t⟩
          simp [results, Tryd.results19, go_sem]
        · have phi : ¬ (lh : Int) > 0 := by omega
          go_wp2
          refine bodyPost_end (v := .tuple #[]) ?_ rfl ⟨rfl, hcut.out.t⟩
          simp [results, Tryd.results19, go_sem]
    · have pti : ¬ (lt : Int) > 0 := by omega
      go_upto_region 11 with fail
      clear x1 x2
      have x2' := hcut.out.x2
      by_cases ph : 0 < lh
      · have phi : (lh : Int) > 0 := by omega
        obtain ⟨zh, hzh, hfh, hnh, hbh⟩ := hcut.out.hand ph
        have HF : Hid (Tq w (wc.drew.setCell ⟨bh, 0, none⟩ (.int .i64 (bits .xor .i64 zh 1))) N n1 bo bs bh vr vq sz nx lo lt lh) := hcut.out.drew.set hzh hnh hbh (inR_i _ _)
        go_wp2_with fail
        refine Kg.quiet_tail 8 Kg.mixed (by kernel_rfl) ?_
        simp only [List.take_succ_cons, List.take_zero, List.drop_succ_cons, List.drop_zero]
        repeat (go_big_quiet_step (fail))
        refine wpQuiet_nil ?_
        go_wp2_with fail
        refine bodyPost_end (v := .tuple #[]) ?_ rfl ⟨rfl, HF.out.t⟩
        simp [results, Tryd.results19, go_sem]
      · have phi : ¬ (lh : Int) > 0 := by omega
        go_wp2
        refine bodyPost_end (v := .tuple #[]) ?_ rfl ⟨rfl, hcut.out.t⟩
        simp [results, Tryd.results19, go_sem]

end Go.Proofs.YtblbiikfipcbcaaDoor
