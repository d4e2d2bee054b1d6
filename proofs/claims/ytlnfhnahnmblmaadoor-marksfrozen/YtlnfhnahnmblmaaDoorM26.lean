/-
  What MarksFrozen tells the runs to: changes on the way.
-/
import Derived.Test.YtlnfhnahnmblmaaDoorM25
set_option linter.unusedVariables false
set_option maxRecDepth 100000
set_option maxHeartbeats 1000000
namespace Go.Proofs.YtlnfhnahnmblmaaDoor
open Go.RowKit Go.Shelf

theorem set_some2 (b g n : Nat) (M : Nat → Bool) (x y : Int) (hx : x ≤ 9223372036854775807) (w : World) (hM : Mp w b g n M) :
    Calls Tryd.prog 15 #[.pointer (some ⟨b, 0, none⟩), .int .i64 x, .int .i64 y] w fun r w' => ∃ fs er, r = .returned (.tuple #[.bool fs, .int .i64 er]) ∧ (∃ M', Mp w' b g n M') ∧ Touch [g] w w' := by
  by_cases hc : x < 0 ∨ y < 0 ∨ (n : Int) - x < y
  · exact (set_out b g n M x y hx hc w hM).mono (fun _ _ ⟨h1, h2⟩ => ⟨_, _, h1, ⟨M, hM.below h2⟩, Touch.of_below h2 _⟩)
  · obtain ⟨xn, rfl⟩ := Int.eq_ofNat_of_zero_le (show 0 ≤ x by omega)
    obtain ⟨yn, rfl⟩ := Int.eq_ofNat_of_zero_le (show 0 ≤ y by omega)
    exact (set_in b g n M xn yn (by omega) w hM).mono (fun _ _ ⟨fs, _, h1, h2, h3⟩ => ⟨fs, 0, h1, ⟨_, h2⟩, h3⟩)

/-- Where everything lies. -/
structure Pl where
  gB : Nat
  nB : Nat
  wB : Nat
  mB : Nat
  sB : Nat
  hB : Nat
  oB : Nat
  b : Nat
  g : Nat
  n : Nat
  cm : Nat
  cf : Nat
  cb : Nat
  C : Nat
  lo : Nat
  hi : Nat
  cap2 : Nat
  D : Nat
  wh : Int
  p : Option Addr
  a2 : Option Addr
  l2 : List Int
  ws : List Int

/-- A list that came in, in blocks below D. -/
def Ltd (D : Nat) (w : World) (a : Option Addr) (l : List Int) : Prop :=
  ∀ i u, l[i]? = some u → (-9223372036854775808 ≤ u ∧ u ≤ 9223372036854775807) ∧ ∃ b off, a = some ⟨b, off, none⟩ ∧ b < D ∧ w.cell? ⟨b, off + i, none⟩ = some (.int .i64 u)

theorem Ltd.touch {D : Nat} {w w' : World} {a : Option Addr} {l : List Int} {F : List Nat} (h : Ltd D w a l) (t : Touch F w w') (hF : ∀ k ∈ F, D ≤ k) : Ltd D w' a l := fun i u hu => by
  obtain ⟨h0, b, off, h1, h2, h3⟩ := h i u hu
  exact ⟨h0, b, off, h1, h2, t.cell h3 (fun hm => by have := hF _ hm; simp only at this; omega)⟩

/-- What is kept: of the map only that it is one. -/
structure Fj (P : Pl) (k : Nat) (M : Nat → Bool) (W : World) : Prop where
  cj : Cj P.gB P.nB P.wB P.p P.C P.lo P.hi P.ws k W
  ma : Boxed W P.mB 24 (.pointer (some ⟨P.b, 0, none⟩))
  sq : Boxed W P.sB 40 (.func (.func 43) #[] #[.pointer (some ⟨P.cm, 0, none⟩), .pointer (some ⟨P.cf, 0, none⟩), .pointer (some ⟨P.cb, 0, none⟩)])
  wh : Boxed W P.hB 3 (.int .i64 P.wh)
  mo : Boxed W P.oB 22 (.slice P.a2 P.l2.length P.cap2)
  ml : Ltd P.D W P.a2 P.l2
  mp : Mp W P.b P.g P.n M
  la : Laid W
  c1 : Boxed W P.cm 24 (.pointer (some ⟨P.b, 0, none⟩))
  c2 : Boxed W P.cf 3 (.int .i64 0)
  c3 : Boxed W P.cb 3 (.int .i64 P.n)

/-- A block that is written lies apart from all else. -/
structure Of (P : Pl) (k : Nat) : Prop where
  d : P.D ≤ k
  r : k < P.lo ∨ P.hi ≤ k
  w : P.wB ≠ k
  m : P.mB ≠ k
  s : P.sB ≠ k
  h : P.hB ≠ k
  o : P.oB ≠ k
  b : P.b ≠ k
  c1 : P.cm ≠ k
  c2 : P.cf ≠ k
  c3 : P.cb ≠ k
  t0 : 0 ≠ k
  t1 : 1 ≠ k

/-- Everything lies apart. -/
structure Po (P : Pl) : Prop where
  dg : Of P P.gB
  dn : Of P P.nB
  db : Of P P.g
  gn : P.gB ≠ P.nB
  gg : P.gB ≠ P.g
  ng : P.nB ≠ P.g
  n : P.n ≤ 8192
  wl : P.ws.length ≤ 20000
  wc : P.ws.length ≤ P.C
  l2 : P.l2.length ≤ 9223372036854775807
  wr : -9223372036854775808 ≤ P.wh ∧ P.wh ≤ 9223372036854775807

theorem nin1 {x a : Nat} (h : x ≠ a) : x ∉ [a] := by simp [h]
theorem nin2 {x a c : Nat} (h : x ≠ a) (k : x ≠ c) : x ∉ [a, c] := by simp [h, k]

theorem Fj.below {P : Pl} {k : Nat} {M : Nat → Bool} {W W' : World} (h : Fj P k M W) (l : Below W.heap.size W W') : Fj P k M W' :=
  ⟨h.cj.below l, box_below h.ma l, box_below h.sq l, box_below h.wh l, box_below h.mo l, h.ml.touch (Touch.of_below l []) (by simp), h.mp.below l, h.la.below l, box_below h.c1 l, box_below h.c2 l, box_below h.c3 l⟩

/-- The map's bits are written. -/
theorem Fj.bits {P : Pl} {k : Nat} {M M' : Nat → Bool} {W W' : World} (h : Fj P k M W) (o : Po P) (t : Touch [P.g] W W') (hM : Mp W' P.b P.g P.n M') : Fj P k M' W' := by
  have q := o.db
  exact ⟨⟨box_touch h.cj.gd t (nin1 o.gg), box_touch h.cj.nb t (nin1 o.ng), box_touch h.cj.wb t (nin1 q.w), h.cj.ls.touch t (fun x hx => by rw [List.mem_singleton.1 hx]; exact q.r)⟩, box_touch h.ma t (nin1 q.m), box_touch h.sq t (nin1 q.s), box_touch h.wh t (nin1 q.h), box_touch h.mo t (nin1 q.o), h.ml.touch t (fun x hx => by rw [List.mem_singleton.1 hx]; exact q.d), hM, h.la.touch t (nin1 q.t1) (nin1 q.t0), box_touch h.c1 t (nin1 q.c1), box_touch h.c2 t (nin1 q.c2), box_touch h.c3 t (nin1 q.c3)⟩

/-- The two variables are written, and newer blocks. -/
theorem Fj.vars {P : Pl} {k k' : Nat} {M : Nat → Bool} {W W' : World} {F : List Nat} (h : Fj P k M W) (o : Po P) (t : Touch F W W') (hF : ∀ x ∈ F, x = P.gB ∨ x = P.nB ∨ W.heap.size ≤ x) (h1 : Boxed W' P.gB 4 (.bool true)) (h2 : Boxed W' P.nB 3 (.int .i64 (2 * k' : Nat))) : Fj P k' M W' := by
  have q := o.dg
  have u := o.dn
  have t' : Touch [P.gB, P.nB] W W' := t.wide (fun x hx => by
    rcases hF x hx with h | h | h
    · left; simp [h]
    · left; simp [h]
    · exact .inr h)
  have two : ∀ {p : Nat → Prop}, p P.gB → p P.nB → ∀ x ∈ [P.gB, P.nB], p x := fun h1 h2 x hx => by
    simp only [List.mem_cons, List.not_mem_nil, or_false] at hx
    rcases hx with rfl | rfl
    · exact h1
    · exact h2
  exact ⟨⟨h1, h2, box_touch h.cj.wb t' (nin2 q.w u.w), h.cj.ls.touch t' (two q.r u.r)⟩, box_touch h.ma t' (nin2 q.m u.m), box_touch h.sq t' (nin2 q.s u.s), box_touch h.wh t' (nin2 q.h u.h), box_touch h.mo t' (nin2 q.o u.o), h.ml.touch t' (two q.d u.d), h.mp.touch t' (nin2 q.b u.b) (nin2 o.gg.symm o.ng.symm), h.la.touch t' (nin2 q.t1 u.t1) (nin2 q.t0 u.t0), box_touch h.c1 t' (nin2 q.c1 u.c1), box_touch h.c2 t' (nin2 q.c2 u.c2), box_touch h.c3 t' (nin2 q.c3 u.c3)⟩

theorem frz1_any (P : Pl) (o : Po P) (k : Nat) (hk : k ≤ 5000) (M : Nat → Bool) (x y : Int) (hx : P.ws[2 * k]? = some x) (hy : P.ws[2 * k + 1]? = some y) (W : World) (hJ : Fj P k M W) :
    Calls Tryd.prog 23 #[.int .i64 x, .int .i64 y, .pointer (some ⟨P.gB, 0, none⟩), .pointer (some ⟨P.nB, 0, none⟩), .pointer (some ⟨P.wB, 0, none⟩), .pointer (some ⟨P.mB, 0, none⟩), .pointer (some ⟨P.sB, 0, none⟩), .pointer (some ⟨P.hB, 0, none⟩), .pointer (some ⟨P.oB, 0, none⟩)] W fun r W' => Touch [P.gB, P.nB, P.g] W W' ∧ r = .returned (.bool true) ∧ ∃ M', Fj P (k + 1) M' W' := by
  obtain ⟨gr, hg1, hg3, hpe, cx⟩ := hJ.cj.ls _ _ hx
  obtain ⟨g'', hg2, hg4, he, cy⟩ := hJ.cj.ls _ _ hy
  rw [hpe] at he
  simp only [Option.some.injEq, Addr.mk.injEq, and_true] at he
  subst he
  have hl1 : 2 * k + 1 < P.ws.length := (List.getElem?_eq_some_iff.1 hy).1
  have k0 := hJ.cj.gd.cell
  have kf := hJ.cj.gd.frozen
  have k1 := hJ.cj.nb.cell
  have k2 := hJ.cj.wb.cell
  rw [hpe] at k2
  have HJ : Hid (Fj P k M W) := hJ
  have HO : Hid (Po P) := o
  have hi2 : (2 * (k : Int) + 1 < P.ws.length) := by omega
  have hwl := o.wl
  have hgn := o.gn
  clear hJ hx hy hpe o
  generalize P.ws.length = L at *
  obtain ⟨gB, hgB⟩ : ∃ gB, gB = P.gB := ⟨_, rfl⟩
  go_enter Tryd.func23, Tryd.ntmps23
  go_upto_region 2 with fail
  obtain ⟨w4, hw4⟩ : ∃ w4, w4 = W.setCell ⟨P.gB, 0, none⟩ (.bool true) := ⟨_, rfl⟩
  have t4 : Touch [P.gB, P.nB] W w4 := by rw [hw4]; exact Touch.setCell _ _ _ (by simp)
  have e0 : Boxed w4 P.gB 4 (.bool true) := by rw [hw4]; exact HJ.out.cj.gd.set (.bool true)
  have e1 : Boxed w4 P.nB 3 (.int .i64 (2 * k : Nat)) := by rw [hw4]; exact HJ.out.cj.nb.other hgn.symm _
  rw [← hw4]
  clear hw4 k0 kf k1 k2 cx cy
  have k0 := e1.cell
  have kf := e1.frozen
  go_upto_region 3 with fail
  obtain ⟨w5, hw5⟩ : ∃ w5, w5 = w4.setCell ⟨P.nB, 0, none⟩ (.int .i64 (2 * (k : Int) + 2)) := ⟨_, rfl⟩
  have t5 : Touch [P.gB, P.nB] w4 w5 := by rw [hw5]; exact Touch.setCell _ _ _ (by simp)
  have f0 : Boxed w5 P.gB 4 (.bool true) := by rw [hw5]; exact e0.other hgn _
  have f1 : Boxed w5 P.nB 3 (.int .i64 (2 * (k : Int) + 2)) := by rw [hw5]; exact e1.set _
  rw [← hw5]
  clear hw5 k0 kf e0 e1
  have hJ5 : Fj P (k + 1) M w5 := HJ.out.vars HO.out (t4.trans t5) (by simp) f0 (by
    rw [show ((2 * (k + 1) : Nat) : Int) = 2 * (k : Int) + 2 by omega]; exact f1)
  have HT5 : Hid (Touch [P.gB, P.nB, P.g] W w5) := (t4.trans t5).wide (by simp)
  have HJ5 : Hid (Fj P (k + 1) M w5) := hJ5
  have k0 := f1.cell
  clear t4 t5 f0 f1 HJ hJ5 hgB
  by_cases c6 : k ≤ 2
  · obtain ⟨a0, hs0⟩ := sk_ex M false P.n _ 0 rfl
    have ha0 := hs0.ge (Nat.zero_le _)
    obtain ⟨rl, hat⟩ := at_ex M P.n _ a0 rfl ha0.2 (fun h => by
      rcases hs0 with ⟨h1, _⟩ | ⟨_, _, h3, _⟩
      · omega
      · exact h3)
    have htw := two_each hat ha0.2
    have hn8 := HO.out.n
    have hpr := pairs_any P.b P.g P.n a0 hn8 M rl hs0 hat w5 HJ5.out.mp HJ5.out.la
    have HA : Hid (Sk M false 0 P.n a0 ∧ At M P.n a0 rl) := ⟨hs0, hat⟩
    have km := HJ5.out.ma.cell
    have hgl := HJ5.out.cj.gd.lt
    have hnl := HJ5.out.cj.nb.lt
    have hcl := HJ5.out.c3.lt
    clear hs0 hat ha0
    go_upto_region 4 with fail
    clear k0
    go_wp2_with fail
    refine hpr.mono ?_
    rintro r w6 ⟨p', C', rfl, hC', hls, b6⟩
    clear hpr km
    go_upto_region 6 with fail
    obtain ⟨w8, hw8⟩ : ∃ w8, w8 = (w6.alloc (.cells #[.slice p' (2 * rl.length) C'] 22)).alloc (.cells #[.int .i64 0] 3) := ⟨_, rfl⟩
    have b68 : Below w6.heap.size w6 w8 := by rw [hw8]; exact (Below.alloc (Below.refl _ _) (Nat.le_refl _) _).alloc (by simp) _
    have e1 : Boxed w8 w6.heap.size 22 (.slice p' (2 * rl.length) C') := by rw [hw8]; exact (Boxed.new w6 22 _).alloc _
    have e2 : Boxed w8 (w6.heap.size + 1) 3 (.int .i64 0) := by
      have := Boxed.new (w6.alloc (.cells #[.slice p' (2 * rl.length) C'] 22)) 3 (.int .i64 0)
      rw [← hw8, World.size_alloc] at this; exact this
    rw [← hw8]
    have b58 := b6.trans (b68.mono b6.size)
    have hJ8 := HJ5.out.below b58
    have h56 : w5.heap.size ≤ w6.heap.size := b6.size
    obtain ⟨lB, hlB⟩ : ∃ lB, lB = w6.heap.size := ⟨_, rfl⟩
    rw [← hlB] at e1 e2 h56 ⊢
    have hlb : (prs rl).length = 2 * rl.length := prs_len rl
    have hgs := hJ8.la.size
    have q1 := HO.out.dg
    have q11 := q1.c3
    have q12 := q1.t0
    have q13 := q1.t1
    have hcj : Cj P.gB (lB + 1) lB p' C' w5.heap.size lB (prs rl) 0 w8 := ⟨hJ8.cj.gd, e2, by rw [hlb]; exact e1, by
      have := hls.c
      rw [← hlB] at this
      exact this.below b68⟩
    have hcall := runs_call P.b P.g P.n 0 P.n a0 P.cm P.cf P.cb M rl (Nat.zero_le _) (Nat.le_refl _) HA.out.1 HA.out.2 w8 hJ8.mp hJ8.la hJ8.c1.cell hJ8.c2.cell hJ8.c3.cell
      24 #[.pointer (some ⟨P.gB, 0, none⟩), .pointer (some ⟨lB + 1, 0, none⟩), .pointer (some ⟨lB, 0, none⟩)]
      (fun F pre X => F = [P.gB, lB + 1] ∧ Cj P.gB (lB + 1) lB p' C' w5.heap.size lB (prs rl) pre.length X) (fun _ _ => False) (enters_of Tryd.func24 (by kernel_rfl) rfl)
      (fun F pre X h q hq => by
        obtain ⟨rfl, h⟩ := h
        have h1 := h.gd.lt
        have h2 := h.nb.lt
        simp only [List.mem_cons, List.not_mem_nil, or_false] at hq
        omega)
      (fun F pre X X' h l => ⟨h.1, h.2.below l⟩)
      (fun F pre x X h hp => by
        obtain ⟨rfl, h⟩ := h
        obtain ⟨p1, p2⟩ := prs_at hp
        have hpl := hp.length_le
        simp at hpl
        have := frz11_any P.gB (lB + 1) lB (by omega) (by omega) (by omega) p' C' w5.heap.size lB (.inl (by omega)) (.inr (by omega)) (prs rl) pre.length (by omega) _ _ p1 p2 (by rw [hlb]; exact hC') (by omega) X h
        exact this.mono (fun r X' ⟨t, h1, h2⟩ => ⟨t, .inl ⟨h1, _, Newer.refl _ _, rfl, by rw [List.length_append]; exact h2⟩⟩))
      [P.gB, lB + 1] ⟨by simp; omega, by simp; omega, by simp; omega⟩ ⟨rfl, hcj⟩
    have ks := hJ8.sq.cell
    have H8 : Hid (w5.heap.size ≤ lB ∧ Below w5.heap.size w5 w8) := ⟨h56, b58⟩
    have hl8 : lB + 1 < w8.heap.size := e2.lt
    clear hw8 hlB hcj e1 e2 b58 b68 b6 hJ8 hls hgs
    go_wp2_with fail
    refine hcall.mono ?_
    rintro r w9 ⟨rfl, t9, ⟨F', -, hF, hC9⟩ | ⟨_, _, _, h⟩⟩
    rotate_left
    · exact h.elim
    have k1 := hC9.gd.cell
    have kf := hC9.gd.frozen
    have k2 := hC9.nb.cell
    have k3 := hC9.wb.cell
    rw [hlb] at k3
    have hG9 : Boxed w9 P.gB 4 (.bool true) := hC9.gd
    clear hcall hF hC9 ks hlb htw
    generalize 2 * rl.length = L3 at *
    go_upto_region 8 with fail
    obtain ⟨wv, hwv⟩ : ∃ wv, wv = w9.setCell ⟨P.gB, 0, none⟩ (.bool true) := ⟨_, rfl⟩
    have tv : Touch [P.gB, lB + 1] w9 wv := by rw [hwv]; exact Touch.setCell _ _ _ (by simp)
    have hGv : Boxed wv P.gB 4 (.bool true) := by rw [hwv]; exact hG9.set (.bool true)
    rw [← hwv]
    obtain ⟨h56', b58⟩ := H8.out
    have t5v := (Touch.of_below b58 [P.gB, lB + 1]).trans (t9.trans tv)
    have HJv : Hid (Fj P (k + 1) M wv) := HJ5.out.vars HO.out t5v (by simp; omega) hGv (box_touch HJ5.out.cj.nb t5v (by have := HO.out.gn; simp; omega))
    have HTv : Hid (Touch [P.gB, P.nB, P.g] W wv) := HT5.out.then t5v (fun x hx => by
      simp only [List.mem_cons, List.not_mem_nil, or_false] at hx
      rcases hx with rfl | rfl
      · left; simp
      · right; have := HT5.out.size; omega)
    clear hwv tv hGv t5v t9 k1 kf k2 k3 hG9 H8 b58 h56' HJ5 HT5
    have kn : wv.cell? ⟨P.nB, 0, none⟩ = some (.int .i64 (2 * (k : Int) + 2)) := by
      have := HJv.out.cj.nb.cell
      rw [show ((2 * (k + 1) : Nat) : Int) = 2 * (k : Int) + 2 by omega] at this; exact this
    have kh := HJv.out.wh.cell
    have km := HJv.out.ma.cell
    have hclr := clear_any P.b P.g P.n M wv HJv.out.mp
    cases hb : (2 * (k : Int) + 2 == wrap64 (2 * P.wh))
    · have hb' : (2 * (k : Int) + 2 == wrap64 (2 * P.wh)) = false := hb
      clear hb hclr km
      go_upto_region 10 with fail
      clear kn kh hb'
      obtain ⟨wz, hwz⟩ : ∃ wz, wz = wv := ⟨_, rfl⟩
      obtain ⟨M', hM'⟩ : ∃ M', M' = M := ⟨_, rfl⟩
      rw [← hwz] at HJv HTv ⊢
      rw [← hM'] at HJv
      have HJz := HJv
      have HTz := HTv
      clear hwz hM' HJv HTv
      have kn : wz.cell? ⟨P.nB, 0, none⟩ = some (.int .i64 (2 * (k : Int) + 2)) := by
        have := HJz.out.cj.nb.cell
        rw [show ((2 * (k + 1) : Nat) : Int) = 2 * (k : Int) + 2 by omega] at this; exact this
      have ko := HJz.out.mo.cell
      have kg := HJz.out.cj.gd.cell
      have hl2 := HO.out.l2
      by_cases d1 : 2 * (k : Int) + 2 < P.l2.length
      · by_cases d2 : 2 * (k : Int) + 2 ≤ 600
        · obtain ⟨u1, hu1⟩ : ∃ u, P.l2[2 * k]? = some u := ⟨_, List.getElem?_eq_getElem (by omega)⟩
          obtain ⟨u2, hu2⟩ : ∃ u, P.l2[2 * k + 1]? = some u := ⟨_, List.getElem?_eq_getElem (by omega)⟩
          obtain ⟨r1, bo, off, hpa, hbo, c1⟩ := HJz.out.ml _ _ hu1
          obtain ⟨r2, bo', off', he, hbo', c2⟩ := HJz.out.ml _ _ hu2
          rw [hpa] at he ko
          simp only [Option.some.injEq, Addr.mk.injEq] at he
          obtain ⟨rfl, rfl, -⟩ := he
          have km := HJz.out.ma.cell
          have hset := set_some2 P.b P.g P.n M' u1 u2 r1.2 wz.drew (HJz.out.mp.below (below_drewN (Below.refl _ _) 1))
          have i1 : 2 * (k : Int) + 2 - 2 = 2 * (k : Int) := by omega
          have i2 : 2 * (k : Int) + 2 - 1 = 2 * (k : Int) + 1 := by omega
          clear hu1 hu2 hpa hbo hbo'
          generalize P.l2.length = L2 at *
          go_upto_region 11 with fail
          refine quiet_tail 11 mixed (by kernel_rfl) ?_
          simp only [List.take_succ_cons, List.take_zero, List.drop_succ_cons, List.drop_zero]
          repeat (go_big_quiet_step (fail))
          refine wpQuiet_nil ?_
          clear kn ko kg km c1 c2
          go_wp2_with fail
          refine hset.mono ?_
          rintro r wy ⟨fs, er, rfl, ⟨M3, hM3⟩, ty⟩
          have ty' : Touch [P.g] wz wy := (Touch.drewN [P.g] wz 1).trans ty
          have hJy := HJz.out.bits HO.out ty' hM3
          have HTy : Hid (Touch [P.gB, P.nB, P.g] W wy) := HTz.out.trans (ty'.wide (by simp))
          have HJy : Hid (Fj P (k + 1) M3 wy) := hJy
          have kg := hJy.cj.gd.cell
          clear hset ty ty' hM3 hJy
          go_wp2
          go_ret
          exact ⟨HTy.out, rfl, M3, HJy.out⟩
        · generalize P.l2.length = L2 at *
          go_wp2
          go_ret
          exact ⟨HTz.out, rfl, M', HJz.out⟩
      · generalize P.l2.length = L2 at *
        go_wp2
        go_ret
        exact ⟨HTz.out, rfl, M', HJz.out⟩
    · have hb' : (2 * (k : Int) + 2 == wrap64 (2 * P.wh)) = true := hb
      clear hb
      go_upto_region 9 with fail
      clear kn kh hb'
      go_wp2_with fail
      refine hclr.mono ?_
      rintro r wz ⟨rfl, hMz, tz⟩
      have HJz : Hid (Fj P (k + 1) (fun _ => false) wz) := HJv.out.bits HO.out tz hMz
      have HTz : Hid (Touch [P.gB, P.nB, P.g] W wz) := HTv.out.trans (tz.wide (by simp))
      obtain ⟨M', hM'⟩ : ∃ M' : Nat → Bool, M' = fun _ => false := ⟨_, rfl⟩
      rw [← hM'] at HJz
      clear hclr km hMz tz HJv HTv hM'
      go_upto_region 10 with fail
      have kn : wz.cell? ⟨P.nB, 0, none⟩ = some (.int .i64 (2 * (k : Int) + 2)) := by
        have := HJz.out.cj.nb.cell
        rw [show ((2 * (k + 1) : Nat) : Int) = 2 * (k : Int) + 2 by omega] at this; exact this
      have ko := HJz.out.mo.cell
      have kg := HJz.out.cj.gd.cell
      have hl2 := HO.out.l2
      by_cases d1 : 2 * (k : Int) + 2 < P.l2.length
      · by_cases d2 : 2 * (k : Int) + 2 ≤ 600
        · obtain ⟨u1, hu1⟩ : ∃ u, P.l2[2 * k]? = some u := ⟨_, List.getElem?_eq_getElem (by omega)⟩
          obtain ⟨u2, hu2⟩ : ∃ u, P.l2[2 * k + 1]? = some u := ⟨_, List.getElem?_eq_getElem (by omega)⟩
          obtain ⟨r1, bo, off, hpa, hbo, c1⟩ := HJz.out.ml _ _ hu1
          obtain ⟨r2, bo', off', he, hbo', c2⟩ := HJz.out.ml _ _ hu2
          rw [hpa] at he ko
          simp only [Option.some.injEq, Addr.mk.injEq] at he
          obtain ⟨rfl, rfl, -⟩ := he
          have km := HJz.out.ma.cell
          have hset := set_some2 P.b P.g P.n M' u1 u2 r1.2 wz.drew (HJz.out.mp.below (below_drewN (Below.refl _ _) 1))
          have i1 : 2 * (k : Int) + 2 - 2 = 2 * (k : Int) := by omega
          have i2 : 2 * (k : Int) + 2 - 1 = 2 * (k : Int) + 1 := by omega
          clear hu1 hu2 hpa hbo hbo'
          generalize P.l2.length = L2 at *
          go_upto_region 11 with fail
          refine quiet_tail 11 mixed (by kernel_rfl) ?_
          simp only [List.take_succ_cons, List.take_zero, List.drop_succ_cons, List.drop_zero]
          repeat (go_big_quiet_step (fail))
          refine wpQuiet_nil ?_
          clear kn ko kg km c1 c2
          go_wp2_with fail
          refine hset.mono ?_
          rintro r wy ⟨fs, er, rfl, ⟨M3, hM3⟩, ty⟩
          have ty' : Touch [P.g] wz wy := (Touch.drewN [P.g] wz 1).trans ty
          have hJy := HJz.out.bits HO.out ty' hM3
          have HTy : Hid (Touch [P.gB, P.nB, P.g] W wy) := HTz.out.trans (ty'.wide (by simp))
          have HJy : Hid (Fj P (k + 1) M3 wy) := hJy
          have kg := hJy.cj.gd.cell
          clear hset ty ty' hM3 hJy
          go_wp2
          go_ret
          exact ⟨HTy.out, rfl, M3, HJy.out⟩
        · generalize P.l2.length = L2 at *
          go_wp2
          go_ret
          exact ⟨HTz.out, rfl, M', HJz.out⟩
      · generalize P.l2.length = L2 at *
        go_wp2
        go_ret
        exact ⟨HTz.out, rfl, M', HJz.out⟩
  · go_upto_region 8 with fail
    obtain ⟨wv, hwv⟩ : ∃ wv, wv = w5 := ⟨_, rfl⟩
    rw [← hwv] at HJ5 HT5 ⊢
    have HJv := HJ5
    have HTv := HT5
    clear hwv HJ5 HT5 k0
    have kn : wv.cell? ⟨P.nB, 0, none⟩ = some (.int .i64 (2 * (k : Int) + 2)) := by
      have := HJv.out.cj.nb.cell
      rw [show ((2 * (k + 1) : Nat) : Int) = 2 * (k : Int) + 2 by omega] at this; exact this
    have kh := HJv.out.wh.cell
    have km := HJv.out.ma.cell
    have hclr := clear_any P.b P.g P.n M wv HJv.out.mp
    cases hb : (2 * (k : Int) + 2 == wrap64 (2 * P.wh))
    · have hb' : (2 * (k : Int) + 2 == wrap64 (2 * P.wh)) = false := hb
      clear hb hclr km
      go_upto_region 10 with fail
      clear kn kh hb'
      obtain ⟨wz, hwz⟩ : ∃ wz, wz = wv := ⟨_, rfl⟩
      obtain ⟨M', hM'⟩ : ∃ M', M' = M := ⟨_, rfl⟩
      rw [← hwz] at HJv HTv ⊢
      rw [← hM'] at HJv
      have HJz := HJv
      have HTz := HTv
      clear hwz hM' HJv HTv
      have kn : wz.cell? ⟨P.nB, 0, none⟩ = some (.int .i64 (2 * (k : Int) + 2)) := by
        have := HJz.out.cj.nb.cell
        rw [show ((2 * (k + 1) : Nat) : Int) = 2 * (k : Int) + 2 by omega] at this; exact this
      have ko := HJz.out.mo.cell
      have kg := HJz.out.cj.gd.cell
      have hl2 := HO.out.l2
      by_cases d1 : 2 * (k : Int) + 2 < P.l2.length
      · by_cases d2 : 2 * (k : Int) + 2 ≤ 600
        · obtain ⟨u1, hu1⟩ : ∃ u, P.l2[2 * k]? = some u := ⟨_, List.getElem?_eq_getElem (by omega)⟩
          obtain ⟨u2, hu2⟩ : ∃ u, P.l2[2 * k + 1]? = some u := ⟨_, List.getElem?_eq_getElem (by omega)⟩
          obtain ⟨r1, bo, off, hpa, hbo, c1⟩ := HJz.out.ml _ _ hu1
          obtain ⟨r2, bo', off', he, hbo', c2⟩ := HJz.out.ml _ _ hu2
          rw [hpa] at he ko
          simp only [Option.some.injEq, Addr.mk.injEq] at he
          obtain ⟨rfl, rfl, -⟩ := he
          have km := HJz.out.ma.cell
          have hset := set_some2 P.b P.g P.n M' u1 u2 r1.2 wz.drew (HJz.out.mp.below (below_drewN (Below.refl _ _) 1))
          have i1 : 2 * (k : Int) + 2 - 2 = 2 * (k : Int) := by omega
          have i2 : 2 * (k : Int) + 2 - 1 = 2 * (k : Int) + 1 := by omega
          clear hu1 hu2 hpa hbo hbo'
          generalize P.l2.length = L2 at *
          go_upto_region 11 with fail
          refine quiet_tail 11 mixed (by kernel_rfl) ?_
          simp only [List.take_succ_cons, List.take_zero, List.drop_succ_cons, List.drop_zero]
          repeat (go_big_quiet_step (fail))
          refine wpQuiet_nil ?_
          clear kn ko kg km c1 c2
          go_wp2_with fail
          refine hset.mono ?_
          rintro r wy ⟨fs, er, rfl, ⟨M3, hM3⟩, ty⟩
          have ty' : Touch [P.g] wz wy := (Touch.drewN [P.g] wz 1).trans ty
          have hJy := HJz.out.bits HO.out ty' hM3
          have HTy : Hid (Touch [P.gB, P.nB, P.g] W wy) := HTz.out.trans (ty'.wide (by simp))
          have HJy : Hid (Fj P (k + 1) M3 wy) := hJy
          have kg := hJy.cj.gd.cell
          clear hset ty ty' hM3 hJy
          go_wp2
          go_ret
          exact ⟨HTy.out, rfl, M3, HJy.out⟩
        · generalize P.l2.length = L2 at *
          go_wp2
          go_ret
          exact ⟨HTz.out, rfl, M', HJz.out⟩
      · generalize P.l2.length = L2 at *
        go_wp2
        go_ret
        exact ⟨HTz.out, rfl, M', HJz.out⟩
    · have hb' : (2 * (k : Int) + 2 == wrap64 (2 * P.wh)) = true := hb
      clear hb
      go_upto_region 9 with fail
      clear kn kh hb'
      go_wp2_with fail
      refine hclr.mono ?_
      rintro r wz ⟨rfl, hMz, tz⟩
      have HJz : Hid (Fj P (k + 1) (fun _ => false) wz) := HJv.out.bits HO.out tz hMz
      have HTz : Hid (Touch [P.gB, P.nB, P.g] W wz) := HTv.out.trans (tz.wide (by simp))
      obtain ⟨M', hM'⟩ : ∃ M' : Nat → Bool, M' = fun _ => false := ⟨_, rfl⟩
      rw [← hM'] at HJz
      clear hclr km hMz tz HJv HTv hM'
      go_upto_region 10 with fail
      have kn : wz.cell? ⟨P.nB, 0, none⟩ = some (.int .i64 (2 * (k : Int) + 2)) := by
        have := HJz.out.cj.nb.cell
        rw [show ((2 * (k + 1) : Nat) : Int) = 2 * (k : Int) + 2 by omega] at this; exact this
      have ko := HJz.out.mo.cell
      have kg := HJz.out.cj.gd.cell
      have hl2 := HO.out.l2
      by_cases d1 : 2 * (k : Int) + 2 < P.l2.length
      · by_cases d2 : 2 * (k : Int) + 2 ≤ 600
        · obtain ⟨u1, hu1⟩ : ∃ u, P.l2[2 * k]? = some u := ⟨_, List.getElem?_eq_getElem (by omega)⟩
          obtain ⟨u2, hu2⟩ : ∃ u, P.l2[2 * k + 1]? = some u := ⟨_, List.getElem?_eq_getElem (by omega)⟩
          obtain ⟨r1, bo, off, hpa, hbo, c1⟩ := HJz.out.ml _ _ hu1
          obtain ⟨r2, bo', off', he, hbo', c2⟩ := HJz.out.ml _ _ hu2
          rw [hpa] at he ko
          simp only [Option.some.injEq, Addr.mk.injEq] at he
          obtain ⟨rfl, rfl, -⟩ := he
          have km := HJz.out.ma.cell
          have hset := set_some2 P.b P.g P.n M' u1 u2 r1.2 wz.drew (HJz.out.mp.below (below_drewN (Below.refl _ _) 1))
          have i1 : 2 * (k : Int) + 2 - 2 = 2 * (k : Int) := by omega
          have i2 : 2 * (k : Int) + 2 - 1 = 2 * (k : Int) + 1 := by omega
          clear hu1 hu2 hpa hbo hbo'
          generalize P.l2.length = L2 at *
          go_upto_region 11 with fail
          refine quiet_tail 11 mixed (by kernel_rfl) ?_
          simp only [List.take_succ_cons, List.take_zero, List.drop_succ_cons, List.drop_zero]
          repeat (go_big_quiet_step (fail))
          refine wpQuiet_nil ?_
          clear kn ko kg km c1 c2
          go_wp2_with fail
          refine hset.mono ?_
          rintro r wy ⟨fs, er, rfl, ⟨M3, hM3⟩, ty⟩
          have ty' : Touch [P.g] wz wy := (Touch.drewN [P.g] wz 1).trans ty
          have hJy := HJz.out.bits HO.out ty' hM3
          have HTy : Hid (Touch [P.gB, P.nB, P.g] W wy) := HTz.out.trans (ty'.wide (by simp))
          have HJy : Hid (Fj P (k + 1) M3 wy) := hJy
          have kg := hJy.cj.gd.cell
          clear hset ty ty' hM3 hJy
          go_wp2
          go_ret
          exact ⟨HTy.out, rfl, M3, HJy.out⟩
        · generalize P.l2.length = L2 at *
          go_wp2
          go_ret
          exact ⟨HTz.out, rfl, M', HJz.out⟩
      · generalize P.l2.length = L2 at *
        go_wp2
        go_ret
        exact ⟨HTz.out, rfl, M', HJz.out⟩
end Go.Proofs.YtlnfhnahnmblmaaDoor
