import Derived.Test.YtckgcpoheodbcaaGreatDoorQ45
import Derived.Test.YtckgcpoheodbcaaGreatDoorQ44
import Derived.Deep.CutRange
set_option linter.unusedVariables false
set_option maxHeartbeats 8000000
set_option maxRecDepth 20000
namespace Go.Proofs.YtckgcpoheodbcaaGreatDoor
open Go.RowKit Go.Shelf
theorem Shp.trans {a b c : World} (h : Shp a b) (k : Shp b c) : Shp a c := by
  refine ⟨Nat.le_trans h.s k.s, fun x f hx => ?_, fun x f hx => (k.fr x f (Nat.lt_of_lt_of_le hx h.s)).trans (h.fr x f hx)⟩
  rcases k.c x f (Nat.lt_of_lt_of_le hx h.s) with h1 | ⟨kk, y, z', h1, h2, h3⟩
  · rcases h.c x f hx with h4 | ⟨kk, y, z', h4, h5, h6⟩
    · exact .inl (h1.trans h4)
    · exact .inr ⟨kk, y, z', h4, h1.trans h5, h6⟩
  · rcases h.c x f hx with h4 | ⟨kk', y', z'', h4, h5, h6⟩
    · exact .inr ⟨kk, y, z', by rw [← h4]; exact h1, h2, h3⟩
    · rw [h5] at h1
      cases h1
      exact .inr ⟨kk, y', z', h4, h2, h3⟩
theorem Shp.below {w w' : World} (h : Below w.heap.size w w') : Shp w w' :=
  ⟨h.size, fun b f hb => .inl (h.cell (p := ⟨b, f, none⟩) hb), fun b f hb => frozen_blk (h.block b hb)⟩
structure Uq (w0 w : World) (N : Nat → Nat) (n1 : Nat) (vo vs vh : Value) : Prop where
  k : Keeps w0 w N
  s : Shp w0 w
  b : Below n1 w0 w
  x0 : w.cell? ⟨w0.heap.size, 0, none⟩ = some vo
  x1 : w.cell? ⟨w0.heap.size, 1, none⟩ = some vs
  x2 : w.cell? ⟨w0.heap.size, 2, none⟩ = some vh
  n : n1 ≤ w0.heap.size
  v0 : ∀ k z, vo ≠ .int k z
  v1 : ∀ k z, vs ≠ .int k z
  v2 : ∀ k z, vh ≠ .int k z
theorem cell_keep17 {w : World} {a c : Addr} {k : IntKind} {z : Int} {u v : Value} (ha : w.cell? a = some (.int k z)) (hc : w.cell? c = some u) (hu : ∀ k z, u ≠ .int k z) : (w.setCell a v).cell? c = some u :=
  (World.cell?_setCell_other _ _ _ _ (fun e => by subst e; rw [ha] at hc; exact hu k z (Option.some.inj hc).symm)).trans hc
theorem Uq.set {w0 w : World} {N : Nat → Nat} {n1 : Nat} {vo vs vh : Value} {b f : Nat} {k : IntKind} {z z' : Int} (h : Uq w0 w N n1 vo vs vh) (hc : w.cell? ⟨b, f, none⟩ = some (.int k z)) (hb : n1 ≤ b) (hf : f < N b) (hr : inR k z') : Uq w0 (w.setCell ⟨b, f, none⟩ (.int k z')) N n1 vo vs vh :=
  ⟨h.k.trans ⟨by rw [World.size_setCell]; exact Nat.le_refl _, fun b' f' _ hf' => World.cell?_setCell_other _ _ _ _ (fun e => by cases e; omega)⟩, h.s.trans (Shp.set hc hr), h.b.trans ((Kg.Touch.setCell (F := [b]) w ⟨b, f, none⟩ _ (by simp)).below (Nat.le_trans h.n h.s.s) (fun y hy => by simp at hy; omega)), cell_keep17 hc h.x0 h.v0, cell_keep17 hc h.x1 h.v1, cell_keep17 hc h.x2 h.v2, h.n, h.v0, h.v1, h.v2⟩
theorem inR_lit (z : Int) (h : -1000 ≤ z ∧ z ≤ 1000) : inR .i64 z := ⟨fun _ => by unfold InI; omega, fun e => by cases e⟩
theorem turned17_any {w : World} {N : Nat → Nat} {n1 : Nat} {vo vs vh vr vq : Value} {os : List OL} {ts : List (Value × List (Value × List Int))} {g : Im.Gr} (h : Lent w N [] n1 vo vs vh vr vq os ts g) (hn : n1 ≤ w.heap.size) (hol : os.length ≤ 1000000000000) (hpl : ∀ x, x ∈ os → x.o.ps.length ≤ 1000000000000) (htl : ts.length ≤ 1000000000000) (hhl : g.hs.length ≤ 1000000000000) :
    Calls Tryz.prog 11 #[.agg (gcs vo vs vh vr vq g.next)] w fun e w' => e = .returned (.tuple #[]) ∧ Shp w w' ∧ Below n1 w w' ∧ Keeps w w' N := by
  have HL : Hid (Lent w N [] n1 vo vs vh vr vq os ts g) := h
  obtain ⟨bo, go⟩ := h.o
  obtain ⟨bs, gs⟩ := h.s
  obtain ⟨bh, gh⟩ := h.h
  have eo := go.is
  have es := gs.is
  have eh := gh.is
  have l1 : Below w.heap.size w (w.alloc (.cells (gcs vo vs vh vr vq g.next) 27)) := Below.alloc (Below.refl _ _) (Nat.le_refl _) _
  have hx := heap_alloc_new w (.cells (gcs vo vs vh vr vq g.next) 27 (0, 0))
  have HP : Hid (∀ x, x ∈ os → x.o.ps.length ≤ 1000000000000) := hpl
  have HGO : Hid (GotO w N [] n1 bo vo os) := go
  have HGS : Hid (GotS (PL n1) w N [] n1 bs vs ts) := gs
  have HGH : Hid (Got w N [] n1 bh .i64 vh g.hs) := gh
  subst eo es eh
  have HQ : Hid (Uq w (w.alloc (.cells (gcs (.slice (some ⟨bo, 0, none⟩) os.length (os.length + 8)) (.slice (some ⟨bs, 0, none⟩) ts.length (ts.length + 8)) (.slice (some ⟨bh, 0, none⟩) g.hs.length (g.hs.length + 40)) vr vq g.next) 27)) N n1 (.slice (some ⟨bo, 0, none⟩) os.length (os.length + 8)) (.slice (some ⟨bs, 0, none⟩) ts.length (ts.length + 8)) (.slice (some ⟨bh, 0, none⟩) g.hs.length (g.hs.length + 40))) := ⟨Keeps.below l1, Shp.below l1, l1.mono hn, Kg.heap_cell hx 0, Kg.heap_cell hx 1, Kg.heap_cell hx 2, hn, fun _ _ e => (by cases e), fun _ _ e => (by cases e), fun _ _ e => (by cases e)⟩
  clear h hpl go gs gh l1 hx HL
  generalize hW : w.alloc (.cells (gcs (.slice (some ⟨bo, 0, none⟩) os.length (os.length + 8)) (.slice (some ⟨bs, 0, none⟩) ts.length (ts.length + 8)) (.slice (some ⟨bh, 0, none⟩) g.hs.length (g.hs.length + 40)) vr vq g.next) 27) = W at HQ
  have x0 := HQ.out.x0
  go_enter Tryz.func11, Tryz.ntmps11
  go_upto_region 1 with fail
  clear hW
  go_upto_if 9 with fail
  go_cut [] from 3 to 32 (fun wq => Hid (Uq w wq N n1 (.slice (some ⟨bo, 0, none⟩) os.length (os.length + 8)) (.slice (some ⟨bs, 0, none⟩) ts.length (ts.length + 8)) (.slice (some ⟨bh, 0, none⟩) g.hs.length (g.hs.length + 40))))
  case first =>
    by_cases po : 0 < os.length
    · have poi : (os.length : Int) > 0 := by omega
      have hz : os[0]? = some (os[0]'po) := List.getElem?_eq_getElem po
      generalize os[0]'po = x at hz
      obtain ⟨hc, ⟨b3, hp⟩, -⟩ := HGO.out.c 0 x hz
      have c3 : w.cell? ⟨bo, 3, none⟩ = some x.vp := by have h9 := hc 3 (by omega); simpa using h9
      have hpn := HP.out x (List.mem_of_getElem? hz)
      have hbo := HGO.out.lt
      rw [hp.is] at c3
      obtain ⟨n3, hn3⟩ : ∃ n3, n3 = x.o.ps.length := ⟨_, rfl⟩
      rw [← hn3] at c3 hpn
      have HF : Hid (∀ wq, Uq w wq N n1 (.slice (some ⟨bo, 0, none⟩) os.length (os.length + 8)) (.slice (some ⟨bs, 0, none⟩) ts.length (ts.length + 8)) (.slice (some ⟨bh, 0, none⟩) g.hs.length (g.hs.length + 40)) → wq.cell? ⟨bo, 3, none⟩ = some (.slice (some ⟨b3, 0, none⟩) n3 (n3 + 40)) ∧ ∀ i, i < n3 → ∃ z, wq.cell? ⟨b3, i, none⟩ = some (.int .i64 z) ∧ wq.frozen? ⟨b3, i, none⟩ = false) := fun wq hq => by
        refine ⟨hq.s.other hbo c3 (fun _ _ e => by cases e), fun i hi => ?_⟩
        have hy : x.o.ps[i]? = some (x.o.ps[i]'(by omega)) := List.getElem?_eq_getElem _
        obtain ⟨z', h1, -⟩ := hq.s.int hp.lt (hp.c i _ hy)
        exact ⟨z', h1, (hq.s.fr b3 i hp.lt).trans (hp.fr i)⟩
      have Hb3 : Hid (n1 ≤ b3 ∧ N b3 = n3) := ⟨hp.lo, by rw [hn3]; exact hp.n⟩
      have hzl : os[os.length - 1]? = some (os[os.length - 1]'(by omega)) := List.getElem?_eq_getElem _
      generalize os[os.length - 1]'(by omega) = y at hzl
      have HF2 : Hid (∀ wq, Uq w wq N n1 (.slice (some ⟨bo, 0, none⟩) os.length (os.length + 8)) (.slice (some ⟨bs, 0, none⟩) ts.length (ts.length + 8)) (.slice (some ⟨bh, 0, none⟩) g.hs.length (g.hs.length + 40)) → ∃ z, wq.cell? ⟨bo, (os.length - 1) * 5 + 2, none⟩ = some (.int .i64 z) ∧ wq.frozen? ⟨bo, (os.length - 1) * 5 + 2, none⟩ = false) := fun wq hq => by
        have h9 : w.cell? ⟨bo, (os.length - 1) * 5 + 2, none⟩ = some (.int .i64 y.o.site) := (HGO.out.c (os.length - 1) y hzl).1 2 (by omega)
        obtain ⟨z', h1, -⟩ := hq.s.int hbo h9
        exact ⟨z', h1, (hq.s.fr bo _ hbo).trans (HGO.out.fr _)⟩
      have Hbo : Hid (n1 ≤ bo ∧ N bo = os.length * 5) := ⟨HGO.out.l, HGO.out.n⟩
      clear hz hc hp c3 hn3 hzl hbo
      go_wp2
      go_loopw [3] (fun v wr => ∃ i : Nat, i ≤ n3 ∧ v = .int .i64 i ∧ Hid (Uq w wr N n1 (.slice (some ⟨bo, 0, none⟩) os.length (os.length + 8)) (.slice (some ⟨bs, 0, none⟩) ts.length (ts.length + 8)) (.slice (some ⟨bh, 0, none⟩) g.hs.length (g.hs.length + 40)))) (fun v _ => n3 - (intOf v).toNat)
      case atStart => exact ⟨0, Nat.zero_le _, rfl, HQ⟩
      case round =>
        obtain ⟨i, hi, rfl, HU⟩ := hrel
        clear x0
        have x0 := HU.out.x0
        obtain ⟨c3, hc3⟩ := HF.out wr HU.out
        by_cases hin : i < n3
        · have hiI : (i : Int) < (n3 : Int) := by omega
          obtain ⟨z, hz, hfz⟩ := hc3 i hin
          have HU2 : Hid (Uq w (wr.setCell ⟨b3, i, none⟩ (.int .i64 0)) N n1 (.slice (some ⟨bo, 0, none⟩) os.length (os.length + 8)) (.slice (some ⟨bs, 0, none⟩) ts.length (ts.length + 8)) (.slice (some ⟨bh, 0, none⟩) g.hs.length (g.hs.length + 40))) := HU.out.set hz Hb3.out.1 (by rw [Hb3.out.2]; exact hin) (inR_lit 0 (by omega))
          clear hc3
          go_wp2
          go_roundw
          case rel => exact ⟨i + 1, by omega, by go_num, HU2⟩
          case measure => simp [intOf]; omega
        · have hiI : ¬ (i : Int) < (n3 : Int) := by omega
          obtain ⟨z, hz, hfz⟩ := HF2.out wr HU.out
          have hol1 : (os.length : Int) - 1 = ((os.length - 1 : Nat) : Int) := by omega
          have hol2 : os.length - 1 < os.length := by omega
          have HU2 : Hid (Uq w (wr.setCell ⟨bo, (os.length - 1) * 5 + 2, none⟩ (.int .i64 200)) N n1 (.slice (some ⟨bo, 0, none⟩) os.length (os.length + 8)) (.slice (some ⟨bs, 0, none⟩) ts.length (ts.length + 8)) (.slice (some ⟨bh, 0, none⟩) g.hs.length (g.hs.length + 40))) := HU.out.set hz Hbo.out.1 (by rw [Hbo.out.2]; omega) (inR_lit 200 (by omega))
          clear hc3
          go_wp2
          go_meet
          case rel => exact HU2
    · have poi : ¬ (os.length : Int) > 0 := by omega
      go_wp2
      go_meet
      case rel => exact HQ
  case rest =>
    clear HQ x0
    have x2 := hcut.out.x2
    have HV : Hid (∀ x, x ∈ ts → True) := fun _ _ => trivial
    by_cases ph : 0 < g.hs.length
    · have phi : (g.hs.length : Int) > 0 := by omega
      have hzh : g.hs[g.hs.length - 1]? = some (g.hs[g.hs.length - 1]'(by omega)) := List.getElem?_eq_getElem _
      obtain ⟨z, hzc, -⟩ := hcut.out.s.int HGH.out.lt (HGH.out.c _ _ hzh)
      have hfz := (hcut.out.s.fr bh (g.hs.length - 1) HGH.out.lt).trans (HGH.out.fr _)
      have hol1 : (g.hs.length : Int) - 1 = ((g.hs.length - 1 : Nat) : Int) := by omega
      have hol2 : g.hs.length - 1 < g.hs.length := by omega
      have HU : Hid (Uq w (wc.setCell ⟨bh, g.hs.length - 1, none⟩ (.int .i64 0)) N n1 (.slice (some ⟨bo, 0, none⟩) os.length (os.length + 8)) (.slice (some ⟨bs, 0, none⟩) ts.length (ts.length + 8)) (.slice (some ⟨bh, 0, none⟩) g.hs.length (g.hs.length + 40))) := hcut.out.set hzc HGH.out.lo (by rw [HGH.out.n]; omega) (inR_lit 0 (by omega))
      clear hzh hcut
      go_upto_region 11 with fail
      generalize wc.setCell ⟨bh, g.hs.length - 1, none⟩ (.int .i64 0) = wD at *
      clear x2 hzc hfz
      have x1 := HU.out.x1
      by_cases pt : 0 < ts.length
      · have pti : (ts.length : Int) > 0 := by omega
        have hz : ts[0]? = some (ts[0]'pt) := List.getElem?_eq_getElem pt
        generalize ts[0]'pt = x at hz
        obtain ⟨hc, b5, hp⟩ := HGS.out.c 0 x hz
        rw [hp.is] at hc
        have c5 := HU.out.s.other HGS.out.lt hc (fun _ _ e => by cases e)
        by_cases p5 : 0 < x.2.length
        · have p5i : (x.2.length : Int) > 0 := by omega
          have hy : x.2[0]? = some (x.2[0]'p5) := List.getElem?_eq_getElem p5
          generalize x.2[0]'p5 = y at hy
          obtain ⟨hc', b6, hp'⟩ := hp.c 0 y hy
          rw [hp'.is] at hc'
          have c6 := HU.out.s.other hp.lt hc' (fun _ _ e => by cases e)
          by_cases p6 : 0 < y.2.length
          · have p6i : (y.2.length : Int) > 0 := by omega
            have hu : y.2[0]? = some (y.2[0]'p6) := List.getElem?_eq_getElem p6
            obtain ⟨z, hzc, -⟩ := HU.out.s.int hp'.lt (hp'.c 0 _ hu)
            have hfz := (HU.out.s.fr b6 0 hp'.lt).trans (hp'.fr 0)
            have HU2 : Hid (Uq w (wD.setCell ⟨b6, 0, none⟩ (.int .i64 0)) N n1 (.slice (some ⟨bo, 0, none⟩) os.length (os.length + 8)) (.slice (some ⟨bs, 0, none⟩) ts.length (ts.length + 8)) (.slice (some ⟨bh, 0, none⟩) g.hs.length (g.hs.length + 40))) := HU.out.set hzc hp'.lo (by rw [hp'.n]; exact p6) (inR_lit 0 (by omega))
            clear hz hc hp hy hc' hp' hu
            go_wp2
            refine bodyPost_end (v := .tuple #[]) ?_ rfl ⟨rfl, HU2.out.s, HU2.out.b, HU2.out.k⟩
            simp [results, Tryz.results11, go_sem]
          · have p6i : ¬ (y.2.length : Int) > 0 := by omega
            clear hz hc hp hy hc' hp'
            go_wp2
            refine bodyPost_end (v := .tuple #[]) ?_ rfl ⟨rfl, HU.out.s, HU.out.b, HU.out.k⟩
            simp [results, Tryz.results11, go_sem]
        · have p5i : ¬ (x.2.length : Int) > 0 := by omega
          clear hz hc hp
          go_wp2
          refine bodyPost_end (v := .tuple #[]) ?_ rfl ⟨rfl, HU.out.s, HU.out.b, HU.out.k⟩
          simp [results, Tryz.results11, go_sem]
      · have pti : ¬ (ts.length : Int) > 0 := by omega
        go_wp2
        refine bodyPost_end (v := .tuple #[]) ?_ rfl ⟨rfl, HU.out.s, HU.out.b, HU.out.k⟩
        simp [results, Tryz.results11, go_sem]
    · have phi : ¬ (g.hs.length : Int) > 0 := by omega
      go_upto_region 11 with fail
      clear x2
      have x1 := hcut.out.x1
      by_cases pt : 0 < ts.length
      · have pti : (ts.length : Int) > 0 := by omega
        have hz : ts[0]? = some (ts[0]'pt) := List.getElem?_eq_getElem pt
        generalize ts[0]'pt = x at hz
        obtain ⟨hc, b5, hp⟩ := HGS.out.c 0 x hz
        rw [hp.is] at hc
        have c5 := hcut.out.s.other HGS.out.lt hc (fun _ _ e => by cases e)
        by_cases p5 : 0 < x.2.length
        · have p5i : (x.2.length : Int) > 0 := by omega
          have hy : x.2[0]? = some (x.2[0]'p5) := List.getElem?_eq_getElem p5
          generalize x.2[0]'p5 = y at hy
          obtain ⟨hc', b6, hp'⟩ := hp.c 0 y hy
          rw [hp'.is] at hc'
          have c6 := hcut.out.s.other hp.lt hc' (fun _ _ e => by cases e)
          by_cases p6 : 0 < y.2.length
          · have p6i : (y.2.length : Int) > 0 := by omega
            have hu : y.2[0]? = some (y.2[0]'p6) := List.getElem?_eq_getElem p6
            obtain ⟨z, hzc, -⟩ := hcut.out.s.int hp'.lt (hp'.c 0 _ hu)
            have hfz := (hcut.out.s.fr b6 0 hp'.lt).trans (hp'.fr 0)
            have HU2 : Hid (Uq w (wc.setCell ⟨b6, 0, none⟩ (.int .i64 0)) N n1 (.slice (some ⟨bo, 0, none⟩) os.length (os.length + 8)) (.slice (some ⟨bs, 0, none⟩) ts.length (ts.length + 8)) (.slice (some ⟨bh, 0, none⟩) g.hs.length (g.hs.length + 40))) := hcut.out.set hzc hp'.lo (by rw [hp'.n]; exact p6) (inR_lit 0 (by omega))
            clear hz hc hp hy hc' hp' hu
            go_wp2
            refine bodyPost_end (v := .tuple #[]) ?_ rfl ⟨rfl, HU2.out.s, HU2.out.b, HU2.out.k⟩
            simp [results, Tryz.results11, go_sem]
          · have p6i : ¬ (y.2.length : Int) > 0 := by omega
            clear hz hc hp hy hc' hp'
            go_wp2
            refine bodyPost_end (v := .tuple #[]) ?_ rfl ⟨rfl, hcut.out.s, hcut.out.b, hcut.out.k⟩
            simp [results, Tryz.results11, go_sem]
        · have p5i : ¬ (x.2.length : Int) > 0 := by omega
          clear hz hc hp
          go_wp2
          refine bodyPost_end (v := .tuple #[]) ?_ rfl ⟨rfl, hcut.out.s, hcut.out.b, hcut.out.k⟩
          simp [results, Tryz.results11, go_sem]
      · have pti : ¬ (ts.length : Int) > 0 := by omega
        go_wp2
        refine bodyPost_end (v := .tuple #[]) ?_ rfl ⟨rfl, hcut.out.s, hcut.out.b, hcut.out.k⟩
        simp [results, Tryz.results11, go_sem]
theorem sum_mem {α : Type} (f : α → Nat) : ∀ (l : List α) x, x ∈ l → f x ≤ (l.map f).sum
  | y :: l, x, h => by
    rw [List.map_cons, List.sum_cons]
    rcases List.mem_cons.1 h with rfl | h
    · omega
    · have := sum_mem f l x h
      omega
theorem Got.lrd {w : World} {N : Nat → Nat} {F : List Nat} {lo b : Nat} {k : IntKind} {v : Value} {xs : List Int} (h : Got w N F lo b k v xs) : Lrd w.heap.size w v k xs :=
  ⟨some ⟨b, 0, none⟩, _, h.is, Nat.le_add_right _ _, fun f z hz => ⟨b, 0, rfl, h.lt, by rw [Nat.zero_add]; exact h.c f z hz⟩⟩
theorem PL.frd {w : World} {N : Nat → Nat} {F : List Nat} {lo : Nat} {v : Value} {fs : List (Value × List Int)} (h : PL lo w N F v fs) : Frd w.heap.size w v fs := by
  obtain ⟨b, h⟩ := h
  refine ⟨some ⟨b, 0, none⟩, _, h.is, fun i x hx => ?_⟩
  obtain ⟨h1, b', h2⟩ := h.c i x hx
  exact ⟨h2.lrd, b, 0, rfl, h.lt, by rw [Nat.zero_add]; exact h1⟩
theorem PT.trd {w : World} {N : Nat → Nat} {F : List Nat} {lo : Nat} {v : Value} {ts : List (Value × List (Value × List Int))} (h : PT lo w N F v ts) : Trd w.heap.size w v ts := by
  obtain ⟨b, h⟩ := h
  refine ⟨some ⟨b, 0, none⟩, _, h.is, fun i x hx => ?_⟩
  obtain ⟨h1, h2⟩ := h.c i x hx
  exact ⟨h2.frd, b, 0, rfl, h.lt, by rw [Nat.zero_add]; exact h1⟩
theorem GotO.ord {w : World} {N : Nat → Nat} {F : List Nat} {lo b : Nat} {v : Value} {os : List OL} (h : GotO w N F lo b v os) : Ord w.heap.size w v os := by
  refine ⟨some ⟨b, 0, none⟩, _, h.is, fun i x hx => ?_⟩
  obtain ⟨h1, ⟨b1, h2⟩, b2, h3⟩ := h.c i x hx
  exact ⟨h2.lrd, h3.lrd, b, 0, rfl, h.lt, fun j hj => by rw [Nat.zero_add]; exact h1 j hj⟩
section
variable {os : List OL} {ts : List (Value × List (Value × List Int))} {g : Im.Gr}
theorem sml_of (h : gsz os ts g ≤ 1048576) : Sml os ts g := by
  have ho : ∀ x, x ∈ os → x.o.ps.length + x.o.rs.length ≤ osum os := sum_mem (fun x : OL => x.o.ps.length + x.o.rs.length) os
  have ht : ∀ x, x ∈ ts → x.2.length + fsum (x.2.map (·.2)) ≤ tsum ts := sum_mem (fun x : Value × List (Value × List Int) => x.2.length + fsum (x.2.map (·.2))) ts
  have hf : ∀ (l : List (Value × List Int)) y, y ∈ l → y.2.length ≤ fsum (l.map (·.2)) := fun l y hy => by
    unfold fsum
    rw [List.map_map]
    exact sum_mem (List.length ∘ fun x : Value × List Int => x.2) l y hy
  have hc : csF ts ≤ tsum ts + ts.length := by
    clear h ho ht
    induction ts with
    | nil => exact Nat.zero_le _
    | cons x r ih =>
      simp only [csF, tsum, List.map_cons, List.sum_cons, List.length_cons] at ih ⊢
      omega
  unfold gsz szs at h
  exact ⟨by omega, fun x hx => by have := ho x hx; omega, by omega, fun x hx => ⟨by have := ht x hx; omega, fun y hy => by have := ht x hx; have := hf _ y hy; omega⟩, by omega, by omega, by omega, by omega⟩
theorem sln_of (h : gsz os ts g ≤ 1048576) : Sln ts := by
  have ht : ∀ x, x ∈ ts → x.2.length + fsum (x.2.map (·.2)) ≤ tsum ts := sum_mem (fun x : Value × List (Value × List Int) => x.2.length + fsum (x.2.map (·.2))) ts
  unfold gsz szs at h
  exact ⟨by omega, fun x hx => by have := ht x hx; omega⟩
theorem Lent.grd {w : World} {N : Nat → Nat} {F : List Nat} {lo : Nat} {vo vs vh vr vq : Value} (h : Lent w N F lo vo vs vh vr vq os ts g) (hr : ∀ x, x ∈ os → obR x.o) (hz : gsz os ts g ≤ 1048576) (hx : g.next < 18446744073709551616) : Grd w.heap.size w vo vs vh vr vq os ts g := by
  obtain ⟨⟨b, h1⟩, h2, ⟨bh, h3⟩, ⟨br, h4⟩, ⟨bq, h5⟩, h6, h7⟩ := h
  refine ⟨h1.ord, h2.trd, h3.lrd, h4.lrd, h5.lrd, h6, h7, hx, fun o ho => ?_⟩
  rw [h6] at ho
  obtain ⟨x, hx', rfl⟩ := List.mem_map.1 ho
  have h8 := (sml_of hz).ol x hx'
  have h9 := hr x hx'
  exact ⟨h9.1, h9.2.1, h9.2.2.1, by omega, by omega⟩
end
def rs0 : RS := ⟨.slice none 0 0, .slice none 0 0, .slice none 0 0, .slice none 0 0, .slice none 0 0, [], [], [], [], []⟩
theorem Bd.new (w : World) (n1 : Nat) (hn : n1 ≤ w.heap.size) : Bd (w.alloc (.cells (rmc (.slice none 0 0) (.slice none 0 0) (.slice none 0 0) (.slice none 0 0) (.slice none 0 0)) 37)) n1 w.heap.size (fun _ => 0) rs0 [] :=
  { r := heap_alloc_new w _, hR := hn
    o1 := World.ownsRow_nil _ _ _ _, o2 := World.ownsRow_nil _ _ _ _, o5 := World.ownsRow_nil _ _ _ _, o6 := World.ownsRow_nil _ _ _ _, o7 := World.ownsRow_nil _ _ _ _
    m1 := (fun v hv => nomatch hv), m2 := (fun v hv => nomatch hv), m5 := (fun v hv => nomatch hv), m6 := (fun v hv => nomatch hv), m7 := (fun v hv => nomatch hv)
    z := fun _ _ => rfl, d := fun _ _ => rfl, x := (fun k hk => nomatch hk) }
theorem gsz_eq {os os' : List OL} {ts ts' : List (Value × List (Value × List Int))} {g : Im.Gr} (eo : os.map (·.o) = os'.map (·.o)) (es : ts.map (fun t => t.2.map (·.2)) = ts'.map (fun t => t.2.map (·.2))) : gsz os ts g = gsz os' ts' g := by
  have h1 : os.length = os'.length := by have := congrArg List.length eo; simpa using this
  have h2 : ts.length = ts'.length := by have := congrArg List.length es; simpa using this
  have h3 : osum os = osum os' := by
    have := congrArg (fun l => (l.map (fun o : Im.Ob => o.ps.length + o.rs.length)).sum) eo
    simpa [osum, List.map_map, Function.comp_def] using this
  have h4 : tsum ts = tsum ts' := by
    have := congrArg (fun l => (l.map (fun t : List (List Int) => t.length + fsum t)).sum) es
    simpa [tsum, List.map_map, Function.comp_def] using this
  simp only [gsz, szs, h1, h2, h3, h4]
theorem obR_of {os os' : List OL} (eo : os.map (·.o) = os'.map (·.o)) (h : ∀ x, x ∈ os → obR x.o) : ∀ x, x ∈ os' → obR x.o := fun x hx => by
  have h1 : x.o ∈ os.map (·.o) := by rw [eo]; exact List.mem_map_of_mem hx
  obtain ⟨y, hy, e⟩ := List.mem_map.1 h1
  rw [← e]
  exact h y hy
theorem Grd.mono {n0 n1 : Nat} {w : World} {vo vs vh vr vq : Value} {os : List OL} {ts : List (Value × List (Value × List Int))} {g : Im.Gr} (h : Grd n0 w vo vs vh vr vq os ts g) (l : n0 ≤ n1) : Grd n1 w vo vs vh vr vq os ts g := by
  have hf : ∀ {v : Value} {fs : List (Value × List Int)}, Frd n0 w v fs → Frd n1 w v fs := fun ⟨a, cap, h1, h2⟩ => ⟨a, cap, h1, fun i x hx => by
    obtain ⟨h3, q, off, h4, h5, h6⟩ := h2 i x hx
    exact ⟨h3.mono l, q, off, h4, Nat.lt_of_lt_of_le h5 l, h6⟩⟩
  refine ⟨?_, ?_, h.hs.mono l, h.rg.mono l, h.qu.mono l, h.eo, h.es, h.nx, h.sr⟩
  · obtain ⟨a, cap, h1, h2⟩ := h.ob
    refine ⟨a, cap, h1, fun i x hx => ?_⟩
    obtain ⟨h3, h4, q, off, h5, h6, h7⟩ := h2 i x hx
    exact ⟨h3.mono l, h4.mono l, q, off, h5, Nat.lt_of_lt_of_le h6 l, h7⟩
  · obtain ⟨a, cap, h1, h2⟩ := h.sl
    refine ⟨a, cap, h1, fun i x hx => ?_⟩
    obtain ⟨h3, q, off, h4, h5, h6⟩ := h2 i x hx
    exact ⟨hf h3, q, off, h4, Nat.lt_of_lt_of_le h5 l, h6⟩
end Go.Proofs.YtckgcpoheodbcaaGreatDoor
