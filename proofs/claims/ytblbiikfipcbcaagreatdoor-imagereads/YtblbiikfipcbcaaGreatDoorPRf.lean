import Derived.Test.YtblbiikfipcbcaaGreatDoorIRc
import Derived.Test.YtblbiikfipcbcaaGreatDoorPRd
/-
  Images, the reader: an object.
-/
set_option linter.unusedVariables false
set_option maxRecDepth 20000
namespace Go.Proofs.YtblbiikfipcbcaaGreatDoor
open Go.RowKit Go.Shelf

/-! Pairs of parsers. -/
theorem pairP_ok {α β : Type} {f : Im.Ps α} {g : Im.Ps β} {p r r' : Nat} {x : α} {y : β} (h : f p = .ok (x, r)) (k : g r = .ok (y, r')) : Im.pairP f g p = .ok ((x, y), r') := by
  simp [Im.pairP, Im.Ps.bind, Im.Ps.map, Im.Ps.ret, h, k]
theorem pairP_err1 {α β : Type} {f : Im.Ps α} {g : Im.Ps β} {p : Nat} {e : Nat × Nat} (h : f p = .error e) : Im.pairP f g p = .error e := by
  simp [Im.pairP, Im.Ps.bind, h]
theorem pairP_err2 {α β : Type} {f : Im.Ps α} {g : Im.Ps β} {p r : Nat} {x : α} {e : Nat × Nat} (h : f p = .ok (x, r)) (k : g r = .error e) : Im.pairP f g p = .error e := by
  simp [Im.pairP, Im.Ps.bind, Im.Ps.map, h, k]

abbrev sv (last n : Nat) : Value := .int .u64 (((last : Int) + (n : Int)) % 18446744073709551616)
/-- An object's five cells are others now. -/
abbrev ob5 (cur : Array Value) (po : Nat) (v0 v1 v2 v3 v4 : Value) : Array Value := ((((cur.setIfInBounds po v0).setIfInBounds (po + 1) v1).setIfInBounds (po + 2) v2).setIfInBounds (po + 3) v3).setIfInBounds (po + 4) v4

set_option maxHeartbeats 4000000 in
/-- An object is read. -/
theorem rd_object {w : World} {n0 R p F po last g c5 d2 lo : Nat} {u v : Value} {bs : List Nat} {cur : Array Value} (h : Rdr w n0 R v bs p) (hby : ∀ x, x ∈ bs → x < 256) (hF : w.heap[F]? = some (.cells cur 58 (0, 0))) (hn : n0 ≤ F) (hFR : F ≠ R) (hb : Obp lo w F po last g u c5 d2) (hRlo : R < lo) (hFlo : F < lo)
    (z0 : cur[po]? = some (.int .u64 0)) (z1 : cur[po + 1]? = some (.int .i64 0)) (z2 : cur[po + 2]? = some (.int .i64 0)) (z3 : cur[po + 3]? = some (.slice none 0 0)) (z4 : cur[po + 4]? = some (.slice none 0 0)) :
    Calls Tryz.prog 38 #[.pointer (some ⟨R, 0, none⟩), .iface 108 (.slice (some ⟨g, 0, none⟩) 5 5)] w fun e w' => Kg.Touch [R, F] w w' ∧ match Im.roP bs p with
      | .ok (y, r) => e = .returned (.tuple #[]) ∧ Rdr w' n0 R v bs r ∧ ∃ vp vr, w'.heap[F]? = some (.cells (ob5 cur po (sv last y.1) (.int .i64 (y.2.1 : Int)) (.int .i64 (y.2.2.1 : Int)) vp vr) 58 (0, 0)) ∧ Vi y.2.2.2.1 vp w' ∧ Vu y.2.2.2.2 vr w'
      | .error (pl, k) => e = .panicked (thrown (pl : Int) (k : Int)) := by
  obtain ⟨c, c2, hu, b1, b2, b3, b4, b5, b6⟩ := hb.u
  have hgl := hb.gl
  have hcg := hb.cg
  have hdg := hb.dg
  have hFl := Kg.heap_lt hF
  let J : Nat → World → Prop := fun k w' => Kg.Touch [R, F] w w' ∧ match k with
    | 0 => Rdr w' n0 R v bs p ∧ w'.heap[F]? = some (.cells cur 58 (0, 0))
    | 1 => ∃ a r, Im.number bs p = .ok (a, r) ∧ Rdr w' n0 R v bs r ∧ w'.heap[F]? = some (.cells (cur.setIfInBounds po (sv last a)) 58 (0, 0))
    | 2 => ∃ a r1 b r, Im.number bs p = .ok (a, r1) ∧ Im.number bs r1 = .ok (b, r) ∧ Rdr w' n0 R v bs r ∧ w'.heap[F]? = some (.cells ((cur.setIfInBounds po (sv last a)).setIfInBounds (po + 1) (.int .i64 (b : Int))) 58 (0, 0))
    | 3 => ∃ a r1 b r2 d r, Im.number bs p = .ok (a, r1) ∧ Im.number bs r1 = .ok (b, r2) ∧ Im.number bs r2 = .ok (d, r) ∧ Rdr w' n0 R v bs r ∧ w'.heap[F]? = some (.cells (((cur.setIfInBounds po (sv last a)).setIfInBounds (po + 1) (.int .i64 (b : Int))).setIfInBounds (po + 2) (.int .i64 (d : Int))) 58 (0, 0))
    | 4 => ∃ a r1 b r2 d r3 ps r vp, Im.number bs p = .ok (a, r1) ∧ Im.number bs r1 = .ok (b, r2) ∧ Im.number bs r2 = .ok (d, r3) ∧ Im.listP bs (Im.number bs) r3 = .ok (ps, r) ∧ Rdr w' n0 R v bs r ∧ w'.heap[F]? = some (.cells ((((cur.setIfInBounds po (sv last a)).setIfInBounds (po + 1) (.int .i64 (b : Int))).setIfInBounds (po + 2) (.int .i64 (d : Int))).setIfInBounds (po + 3) vp) 58 (0, 0)) ∧ Vi ps vp w'
    | _ => ∃ a r1 b r2 d r3 ps r4 rs r vp vr, Im.number bs p = .ok (a, r1) ∧ Im.number bs r1 = .ok (b, r2) ∧ Im.number bs r2 = .ok (d, r3) ∧ Im.listP bs (Im.number bs) r3 = .ok (ps, r4) ∧ Im.listP bs (Im.word bs) r4 = .ok (rs, r) ∧ Rdr w' n0 R v bs r ∧ w'.heap[F]? = some (.cells (ob5 cur po (sv last a) (.int .i64 (b : Int)) (.int .i64 (d : Int)) vp vr) 58 (0, 0)) ∧ Vi ps vp w' ∧ Vu rs vr w'
  let E : List PanicEntry → World → Prop := fun ch w' => Kg.Touch [R, F] w w' ∧ ∃ pl k, Im.roP bs p = .error (pl, k) ∧ ch = thrown (pl : Int) (k : Int)
  have blk : ∀ {w' : World} {k : Nat}, Kg.Touch [R, F] w w' → lo ≤ k → k < w.heap.size → w'.heap[k]? = w.heap[k]? := fun t hk hl => t.block _ hl (by simp; omega)
  have hne : ∀ {cs : Array Value} {i j : Nat} {y z : Value}, i ≠ j → cs[j]? = some z → (cs.setIfInBounds i y)[j]? = some z := fun hij hz => by rw [Array.getElem?_setIfInBounds_ne hij]; exact hz
  have hv : lpart ((0 : Nat) : Int) 67 78 c5 d2 = lpart ((0 : Nat) : Int) 67 78 c5 d2 := rfl
  have G := rd_group (R := R) (g := g) (cap := 5) (vs := [.iface 103 (.agg #[.pointer (some ⟨F, po, none⟩), .int .u64 (last : Int)]), .iface 97 (.agg #[.pointer (some ⟨F, po + 1, none⟩)]), .iface 97 (.agg #[.pointer (some ⟨F, po + 2, none⟩)]), u, lpart ((0 : Nat) : Int) 67 78 c5 d2]) J E (by simp) (by simp) ?_ ?_ w ⟨Kg.Touch.refl _ _, h, hF⟩
  · refine G.mono ?_
    rintro e w' (⟨rfl, t, a, r1, b, r2, d, r3, ps, r4, rs, r, vp, vr, e1, e2, e3, e4, e5, hr, hc, hp, hu'⟩ | ⟨ch, rfl, t, pl, k, he, rfl⟩)
    · refine ⟨t, ?_⟩
      have : Im.roP bs p = .ok ((a, b, d, ps, rs), r) := pairP_ok e1 (pairP_ok e2 (pairP_ok e3 (pairP_ok e4 e5)))
      rw [this]
      exact ⟨rfl, hr, vp, vr, hc, hp, hu'⟩
    · refine ⟨t, ?_⟩
      rw [he]
  · intro i x w' hx hJ
    rw [Kg.heap_cell ((blk hJ.1 hgl (Kg.heap_lt hb.g)).trans hb.g) i, ← hx]
    simp
  · intro i x w' hx hJ
    have fin : ∀ {α : Type} {b' o t : Nat} {cs : Array Value} {e : Ending} {w'' : World} {q : Nat} (f : Im.Ps α) (V : α → Value → World → Prop), Kg.Touch [R, F] w w' → Cans n0 R v bs F o t cs w' w'' (f q) e V → (∀ pl k, f q = .error (pl, k) → Im.roP bs p = .error (pl, k)) → (∀ y r, f q = .ok (y, r) → e = .returned (.tuple #[]) → Rdr w'' n0 R v bs r → (∃ u, w''.heap[F]? = some (.cells (cs.setIfInBounds o u) t (0, 0)) ∧ V y u w'') → Kg.Touch [R, F] w w'' → Kg.Touch [R, F] w' w'' → J (i + 1) w'') → RetOr (J (i + 1)) E e w'' := by
      intro α b' o t cs e w'' q f V T0 hC hE hO
      obtain ⟨t1, h1⟩ := hC
      have T := T0.trans t1
      rcases hf : f q with ⟨pl, k⟩ | ⟨y, r⟩
      · rw [hf] at h1
        exact .inr ⟨_, h1, T, pl, k, hE pl k hf, rfl⟩
      · rw [hf] at h1
        exact .inl ⟨h1.1, hO y r hf h1.1 h1.2.1 h1.2.2 T t1⟩
    match i, hx, hJ with
    | 0, hx, hJ =>
      simp at hx
      subst hx
      obtain ⟨T, hr, hc⟩ := hJ
      refine (rd_serial (a := last) hr hby hc z0 hn hFR).mono ?_
      intro e w'' hC
      refine fin (b' := F) (Im.number bs) _ T hC (fun pl k hf => pairP_err1 hf) (fun y r hf _ hr2 ⟨u', hc2, hu2⟩ T2 _ => ?_)
      subst hu2
      exact ⟨T2, y, r, hf, hr2, hc2⟩
    | 1, hx, hJ =>
      simp at hx
      subst hx
      obtain ⟨T, a, r, e1, hr, hc⟩ := hJ
      refine (rd_number hr hby hc (hne (by omega) z1) hn hFR).mono ?_
      intro e w'' hC
      refine fin (b' := F) (Im.number bs) _ T hC (fun pl k hf => pairP_err2 e1 (pairP_err1 hf)) (fun y r' hf _ hr2 ⟨u', hc2, hu2⟩ T2 _ => ?_)
      subst hu2
      exact ⟨T2, a, r, y, r', e1, hf, hr2, hc2⟩
    | 2, hx, hJ =>
      simp at hx
      subst hx
      obtain ⟨T, a, r1, b, r, e1, e2, hr, hc⟩ := hJ
      refine (rd_number hr hby hc (hne (by omega) (hne (by omega) z2)) hn hFR).mono ?_
      intro e w'' hC
      refine fin (b' := F) (Im.number bs) _ T hC (fun pl k hf => pairP_err2 e1 (pairP_err2 e2 (pairP_err1 hf))) (fun y r' hf _ hr2 ⟨u', hc2, hu2⟩ T2 _ => ?_)
      subst hu2
      exact ⟨T2, a, r1, b, r, y, r', e1, e2, hf, hr2, hc2⟩
    | 3, hx, hJ =>
      simp at hx
      subst hx
      obtain ⟨T, a, r1, b, r2, d, r, e1, e2, e3, hr, hc⟩ := hJ
      have hsz := T.size
      rw [hu]
      refine (rd_ints (c := c) (c2 := c2) hr hby hc (hne (by omega) (hne (by omega) (hne (by omega) z3))) hn hFR (by decide) (by omega) (by omega) (by omega) (by omega) (by omega) (by omega) ((cell_blk (blk T b1 b2) 0).trans b5) ((cell_blk (blk T b3 b4) 0).trans b6)).mono ?_
      intro e w'' hC
      refine fin (b' := F) (Im.listP bs (Im.number bs)) _ T hC (fun pl k hf => pairP_err2 e1 (pairP_err2 e2 (pairP_err2 e3 (pairP_err1 hf)))) (fun y r' hf _ hr2 ⟨u', hc2, hu2⟩ T2 _ => ?_)
      exact ⟨T2, a, r1, b, r2, d, r, y, r', u', e1, e2, e3, hf, hr2, hc2, hu2.1⟩
    | 4, hx, hJ =>
      simp at hx
      subst hx
      obtain ⟨T, a, r1, b, r2, d, r3, ps, r, vp, e1, e2, e3, e4, hr, hc, hvp⟩ := hJ
      have hsz := T.size
      refine (rd_raws (o := po) (c := c5) (c2 := d2) hr hby hc (hne (by omega) (hne (by omega) (hne (by omega) (hne (by omega) z4)))) hn hFR (by have := hb.cl; omega) (by omega) (by omega) (by have := hb.dl; omega) (by omega) (by omega) ((cell_blk (blk T hcg hb.cl) 0).trans hb.cc) ((cell_blk (blk T hdg hb.dl) 0).trans hb.dc)).mono ?_
      intro e w'' hC
      refine fin (b' := F) (Im.listP bs (Im.word bs)) _ T hC (fun pl k hf => pairP_err2 e1 (pairP_err2 e2 (pairP_err2 e3 (pairP_err2 e4 hf)))) (fun y r' hf _ hr2 ⟨u', hc2, hu2⟩ T2 t2 => ?_)
      refine ⟨T2, a, r1, b, r2, d, r3, ps, r, y, r', vp, u', e1, e2, e3, e4, hf, hr2, hc2, Vi.st ps vp w' w'' _ hvp t2 (fun k hk cs t' hk' => ?_), hu2⟩
      simp only [List.mem_cons, List.not_mem_nil, or_false] at hk
      rcases hk with rfl | rfl
      · rw [hr.b] at hk'
        cases hk'
        decide
      · rw [hc] at hk'
        cases hk'
        decide
    | k + 5, hx, hJ => simp at hx

end Go.Proofs.YtblbiikfipcbcaaGreatDoor

/-
  Images, the reader: the list of objects.
-/
set_option linter.unusedVariables false
set_option maxRecDepth 20000
namespace Go.Proofs.YtblbiikfipcbcaaGreatDoor
open Go.RowKit Go.Shelf

/-- An object as it was read: its serial, its numbers, the values of its lists. -/
structure OE where
  ser : Nat
  ro : Im.RO
  vp : Value
  vr : Value
abbrev OE.cells (x : OE) : List Value := [.int .u64 (x.ser : Int), .int .i64 (x.ro.2.1 : Int), .int .i64 (x.ro.2.2.1 : Int), x.vp, x.vr]
/-- The serial ahead. -/
def lastE (es : List OE) : Nat → Nat
  | 0 => 0
  | k + 1 => ((es[k]?).map (·.ser)).getD 0
def flatE (es : List OE) : List Value := es.flatMap OE.cells
theorem flatE_len (es : List OE) : (flatE es).length = es.length * 5 := by
  unfold flatE
  induction es with
  | nil => rfl
  | cons a r ih => rw [List.flatMap_cons, List.length_append, ih, List.length_cons]; simp; omega
theorem flatE_at : ∀ (es : List OE) (k j : Nat) (x : OE), es[k]? = some x → j < 5 → (flatE es)[k * 5 + j]? = x.cells[j]? := by
  intro es
  induction es with
  | nil => intro k j x h; simp at h
  | cons a r ih =>
    intro k j x h hj
    unfold flatE
    rw [List.flatMap_cons]
    match k, h with
    | 0, h =>
      simp at h
      subst h
      rw [List.getElem?_append_left (by simp [OE.cells]; omega), Nat.zero_mul, Nat.zero_add]
    | k + 1, h =>
      rw [List.getElem?_append_right (by simp [OE.cells]; omega)]
      rw [show (k + 1) * 5 + j - a.cells.length = k * 5 + j by simp [OE.cells]; omega]
      exact ih k j x (by simpa using h) hj

theorem Vu.st (x : List Nat) (u : Value) (w1 w2 : World) (G : List Nat) (h : Vu x u w1) (t : Kg.Touch G w1 w2) (hG : ∀ k, k ∈ G → ∀ cs t', w1.heap[k]? = some (.cells cs t' (0, 0)) → t' ≠ 26) : Vu x u w2 := row_st h t hG

/-- A row's last object is another one now. -/
theorem row_last5 {w w' : World} {lo F n cap : Nat} {cur : Array Value} {xs : List Value} {v0 v1 v2 v3 v4 : Value} (hx : xs.length = n * 5) (h : w.ownsRow lo 58 5 (.slice (some ⟨F, 0, none⟩) (n + 1) cap) (n + 1) (xs ++ zob.toList)) (hF : w.heap[F]? = some (.cells cur 58 (0, 0))) (h' : w'.heap[F]? = some (.cells (ob5 cur (n * 5) v0 v1 v2 v3 v4) 58 (0, 0))) :
    w'.ownsRow lo 58 5 (.slice (some ⟨F, 0, none⟩) (n + 1) cap) (n + 1) (xs ++ [v0, v1, v2, v3, v4]) := by
  refine ⟨by simp [hx]; omega, ?_⟩
  rcases h.2 with ⟨h1, _⟩ | ⟨g, cp, c2, e1, hb, hg, hn, hm, hs, ht⟩
  · cases h1
  · cases e1
    rw [hF] at hg
    cases hg
    refine .inr ⟨F, cap, _, rfl, hb, h', hn, hm, by simpa using hs, ?_⟩
    simp only [ob5, Array.toList_setIfInBounds, List.take_set, ht, ← hx]
    simp

/-- What is known of the objects that were read. -/
structure Es (ros : List Im.RO) (es : List OE) (w : World) : Prop where
  l : es.length = ros.length
  r : ∀ (j : Nat) x y, ros[j]? = some x → es[j]? = some y → y.ro = x ∧ y.ser = (lastE es j + x.1) % 18446744073709551616 ∧ Vi x.2.2.2.1 y.vp w ∧ Vu x.2.2.2.2 y.vr w

theorem Es.st {ros : List Im.RO} {es : List OE} {w1 w2 : World} {G : List Nat} (h : Es ros es w1) (t : Kg.Touch G w1 w2) (hG : ∀ k, k ∈ G → ∀ cs t', w1.heap[k]? = some (.cells cs t' (0, 0)) → t' ≠ 3 ∧ t' ≠ 26) : Es ros es w2 :=
  ⟨h.l, fun j x y hx hy => by
    obtain ⟨h1, h2, h3, h4⟩ := h.r j x y hx hy
    exact ⟨h1, h2, Vi.st _ _ _ _ _ h3 t (fun k hk cs t' hc => by simpa using (hG k hk cs t' hc).1), Vu.st _ _ _ _ _ h4 t (fun k hk cs t' hc => (hG k hk cs t' hc).2)⟩⟩

theorem lastE_append (es : List OE) (x : OE) (j : Nat) (hj : j ≤ es.length) : lastE (es ++ [x]) j = lastE es j := by
  match j with
  | 0 => rfl
  | k + 1 => simp only [lastE]; rw [List.getElem?_append_left (by omega)]

set_option maxHeartbeats 4000000 in
/-- The list of objects, which lies in the graph's block b. -/
theorem rd_objs {w : World} {n0 R p b c c2 : Nat} {cnt : Int} {v : Value} {bs : List Nat} {cs : Array Value} (h : Rdr w n0 R v bs p) (hby : ∀ x, x ∈ bs → x < 256) (hB : w.heap[b]? = some (.cells cs 28 (0, 0))) (hv : cs[0]? = some (.slice none 0 0)) (hn : n0 ≤ b) (hbR : b ≠ R)
    (hcl : c < w.heap.size) (hcR : c ≠ R) (hcb : c ≠ b) (h2l : c2 < w.heap.size) (h2R : c2 ≠ R) (h2b : c2 ≠ b) (hc : w.cell? ⟨c, 0, none⟩ = some (.pointer (some ⟨b, 0, none⟩))) (hc2 : w.cell? ⟨c2, 0, none⟩ = some (.pointer (some ⟨b, 0, none⟩))) (entG : ∀ args w, (callFunc 65 args).run Tryz.prog w = .ok (.enter 65 args) w) :
    Calls Tryz.prog 38 #[.pointer (some ⟨R, 0, none⟩), lpart cnt 51 65 c c2] w fun e w' => Cans n0 R v bs b 0 28 cs w w' (Im.listP bs (Im.roP bs) p) e (fun ros u w' => ∃ es, Es ros es w' ∧ w'.ownsRow w.heap.size 58 5 u ros.length (flatE es)) := by
  have hRl := Kg.heap_lt h.b
  have hbl := Kg.heap_lt hB
  have hos : 0 < cs.size := (Array.getElem?_eq_some_iff.1 hv).1
  have hlo := h.lo
  let J : World → Nat → Nat → World → Prop := fun W N i w' => Below w.heap.size w W ∧ Kg.Touch [R, b] W w' ∧ N ≤ 1000000000000 ∧ ∃ p1 r ros es a, Im.many bs p = .ok (N, p1) ∧ Im.rep (Im.roP bs) i p1 = .ok (ros, r) ∧ ros.length = i ∧ Rdr w' n0 R v bs r ∧ w'.heap[b]? = some (.cells (cs.setIfInBounds 0 a) 28 (0, 0)) ∧ w'.ownsRow W.heap.size 58 5 a i (flatE es) ∧ Es ros es w'
  let G : World → Nat → Nat → World → Prop := fun W N i w' => Below w.heap.size w W ∧ Kg.Touch [R, b] W w' ∧ N ≤ 1000000000000 ∧ i < N ∧ ∃ p1 r ros es F cap, Im.many bs p = .ok (N, p1) ∧ Im.rep (Im.roP bs) i p1 = .ok (ros, r) ∧ ros.length = i ∧ Rdr w' n0 R v bs r ∧ w'.heap[b]? = some (.cells (cs.setIfInBounds 0 (.slice (some ⟨F, 0, none⟩) (i + 1) cap)) 28 (0, 0)) ∧ w'.ownsRow W.heap.size 58 5 (.slice (some ⟨F, 0, none⟩) (i + 1) cap) (i + 1) (flatE es ++ zob.toList) ∧ Es ros es w'
  let H : World → Nat → Nat → Value → World → Prop := fun W N i u w' => Below w.heap.size w W ∧ Kg.Touch [R, b] W w' ∧ N ≤ 1000000000000 ∧ i < N ∧ ∃ p1 r ros es F cap, Im.many bs p = .ok (N, p1) ∧ Im.rep (Im.roP bs) i p1 = .ok (ros, r) ∧ ros.length = i ∧ Rdr w' n0 R v bs r ∧ w'.heap[b]? = some (.cells (cs.setIfInBounds 0 (.slice (some ⟨F, 0, none⟩) (i + 1) cap)) 28 (0, 0)) ∧ w'.ownsRow W.heap.size 58 5 (.slice (some ⟨F, 0, none⟩) (i + 1) cap) (i + 1) (flatE es ++ zob.toList) ∧ Es ros es w' ∧
    ∃ g lo u' c5 d2, u = .iface 108 (.slice (some ⟨g, 0, none⟩) 5 5) ∧ R < lo ∧ F < lo ∧ Obp lo w' F (i * 5) (lastE es i) g u' c5 d2
  let E : List PanicEntry → World → Prop := fun ch w' => Kg.Touch [R, b] w w' ∧ ∃ pl k, Im.listP bs (Im.roP bs) p = .error (pl, k) ∧ ch = thrown (pl : Int) (k : Int)
  have up : ∀ {W w' : World}, Below w.heap.size w W → Kg.Touch [R, b] W w' → Kg.Touch [R, b] w w' := fun hW t => (Kg.Touch.of_below hW _).trans t
  refine (rd_list (b := b) J G H E hRl hbl parts1_enters entG ?_ (fun _ _ _ _ hj => hj.2.1) (fun _ _ _ _ hg => hg.2.1) ?_ ?_ ?_).mono ?_
  · intro W hW
    refine (count_any (h.below hW) hby).mono ?_
    rintro e w' ⟨t1, h1⟩
    have T1 : Kg.Touch [R, b] W w' := t1.mono (fun k hk => .inl (by simp only [List.mem_cons, List.not_mem_nil, or_false] at hk ⊢; exact .inl hk))
    rcases hm : Im.many bs p with ⟨pl, k⟩ | ⟨N, p1⟩
    · rw [hm] at h1
      exact .inr ⟨_, h1, up hW T1, pl, k, listP_cnt hm, rfl⟩
    · rw [hm] at h1
      obtain ⟨⟨hN, rfl⟩, hr⟩ := h1
      refine .inl ⟨N, hN, rfl, hW, T1, hN, p1, p1, [], [], .slice none 0 0, hm, rfl, rfl, hr, ?_, World.ownsRow_nil _ _ _ _, ⟨rfl, fun j x y hx => by simp at hx⟩⟩
      have hs : cs.setIfInBounds 0 (.slice none 0 0) = cs := by
        apply Array.ext'
        rw [Array.toList_setIfInBounds]
        exact set_self (by simpa using hv)
      rw [hs, t1.block b (by have := hW.size; omega) (by simp [hbR]), hW.block b hbl]
      exact hB
  · rintro W N i w' hiN ⟨hW, T, hN, p1, r, ros, es, a, hm, hrep, hxl, hr, hb', ho', hV⟩
    have hsz := hW.size
    have hWs := T.size
    refine (growO_any (by omega : c2 < w'.heap.size) ((cell_blk ((T.block c2 (by omega) (by simp [h2R, h2b])).trans (hW.block c2 h2l)) 0).trans hc2) hb' (by simp [hos]) ho' (fun e => by have := (ho'.lt _ e).1; omega) (by decide) hWs (by omega)).mono ?_
    rintro e w'' ⟨rfl, F, cap, hg⟩
    have T2 : Kg.Touch [R, b] W w'' := T.then hg.t (fun k hk => by
      simp only [List.mem_cons, Option.mem_toList] at hk
      rcases hk with rfl | hk
      · exact .inl (by simp)
      · exact .inr (ho'.lt k hk).1)
    have hRa : R ∉ (b :: a.ownBlock.toList) := by
      simp only [List.mem_cons, Option.mem_toList, not_or]
      exact ⟨fun e => hbR e.symm, fun e => by have := (ho'.lt _ e).1; omega⟩
    refine ⟨rfl, hW, T2, hN, hiN, p1, r, ros, es, F, cap, hm, hrep, hxl, ⟨?_, hr.l.below (hg.t.below (by omega) (fun k hk => ?_)), hr.lo, hr.le, hr.n⟩, ?_, hg.r, hV.st hg.t (fun k hk cs' t' hk' => ?_)⟩
    · rw [hg.t.block R (Kg.heap_lt hr.b) hRa]
      exact hr.b
    · simp only [List.mem_cons, Option.mem_toList] at hk
      rcases hk with rfl | hk
      · exact hn
      · have := (ho'.lt k hk).1; omega
    · rw [hg.h]
      simp
    · simp only [List.mem_cons, Option.mem_toList] at hk
      rcases hk with rfl | hk
      · rw [hb'] at hk'
        cases hk'
        decide
      · rcases ho'.2 with ⟨h1, _⟩ | ⟨g, cp, cu, e1, _, hg', _⟩
        · rw [h1] at hk; cases hk
        · rw [e1] at hk
          cases hk
          rw [hg'] at hk'
          cases hk'
          decide
  · rintro W N i w' ⟨hW, T, hN, hiN, p1, r, ros, es, F, cap, hm, hrep, hxl, hr, hb', ho', hV⟩
    have hsz := hW.size
    have hel : es.length = i := by rw [hV.l, hxl]
    have hfl := flatE_len es
    have hFl := ho'.lt F rfl
    have hcell : ∀ j, j < (i + 1) * 5 → w'.cell? ⟨F, j, none⟩ = (flatE es ++ zob.toList)[j]? := fun j hj => ho'.cellAt j (by omega)
    have hz : ∀ j, j < 5 → w'.cell? ⟨F, i * 5 + j, none⟩ = zob.toList[j]? := fun j hj => by
      rw [hcell _ (by omega), List.getElem?_append_right (by omega), hfl, hel, Nat.add_sub_cancel_left]
    refine (parts1_any w' c b i (i + 1) cap (some ⟨F, 0, none⟩) ((cell_blk ((T.block c (by omega) (by simp [hcR, hcb])).trans (hW.block c hcl)) 0).trans hc) (by rw [Kg.heap_cell hb' 0]; simp [hos]) (fun w'' u => H W N i u w'') ?_).mono (fun e w'' h => h)
    refine (object_ex (last := lastE es i) hFl.2 (Nat.lt_succ_self i) (by omega) (fun e => by rw [e]; rfl) (fun k hk => ?_) (by rw [Nat.zero_add]; exact hz 3 (by decide)) (by rw [Nat.zero_add]; exact hz 4 (by decide))).mono ?_
    · subst hk
      have hkx : es[k]? = some (es[k]'(by omega)) := List.getElem?_eq_getElem (by omega)
      generalize es[k]'(by omega) = y at hkx
      have := flatE_at es k 0 y hkx (by decide)
      rw [Nat.zero_add, hcell _ (by omega), List.getElem?_append_left (by omega)]
      rw [Nat.add_zero] at this
      rw [this]
      simp [lastE, hkx]
    · rintro e w'' ⟨b2, g, rfl, u', c5, d2, hob⟩
      have t2 := Kg.Touch.of_below b2 []
      rw [Nat.zero_add] at hob
      exact ⟨_, rfl, hW, T.trans (Kg.Touch.of_below b2 _), hN, hiN, p1, r, ros, es, F, cap, hm, hrep, hxl, hr.below b2, (t2.block b (Kg.heap_lt hb') (by simp)).trans hb', Kg.row_keep2 ho' t2 (fun k _ => by simp), hV.st t2 (fun k hk => by simp at hk), g, w'.heap.size, u', c5, d2, rfl, Kg.heap_lt hr.b, hFl.2, hob⟩
  · rintro W N i u w' ⟨hW, T, hN, hiN, p1, r, ros, es, F, cap, hm, hrep, hxl, hr, hb', ho', hV, g, lo, u', c5, d2, rfl, hRlo, hFlo, hob⟩
    have hsz := hW.size
    have hel : es.length = i := by rw [hV.l, hxl]
    have hfl := flatE_len es
    have hFl := ho'.lt F rfl
    have hFR : F ≠ R := by omega
    obtain ⟨cur, hF⟩ : ∃ cur, w'.heap[F]? = some (.cells cur 58 (0, 0)) := by
      rcases ho'.2 with ⟨h1, _⟩ | ⟨g, cp, cu, e1, _, hg, _⟩
      · cases h1
      · cases e1; exact ⟨cu, hg⟩
    have hz : ∀ j, j < 5 → cur[i * 5 + j]? = zob.toList[j]? := fun j hj => by
      rw [← Kg.heap_cell hF, ho'.cellAt _ (by omega), List.getElem?_append_right (by omega), hfl, hel, Nat.add_sub_cancel_left]
    refine (rd_object hr hby hF (by omega) hFR hob hRlo hFlo (hz 0 (by decide)) (hz 1 (by decide)) (hz 2 (by decide)) (hz 3 (by decide)) (hz 4 (by decide))).mono ?_
    rintro e w'' ⟨t2, h2⟩
    have T2 : Kg.Touch [R, b] W w'' := T.then t2 (fun k hk => by
      simp only [List.mem_cons, List.not_mem_nil, or_false] at hk
      rcases hk with rfl | rfl
      · exact .inl (by simp)
      · exact .inr hFl.1)
    rcases hf : Im.roP bs r with ⟨pl, k⟩ | ⟨x, r'⟩
    · rw [hf] at h2
      exact .inr ⟨_, h2, up hW T2, pl, k, listP_err hm (rep_err i p1 r N ros _ hrep hf hiN), rfl⟩
    · rw [hf] at h2
      obtain ⟨rfl, hr2, vp, vr, hF2, hvp, hvr⟩ := h2
      have hbF : b ≠ F := fun e => by rw [← e, hb'] at hF; cases hF
      have hst := hV.st t2 (fun k hk cs' t' hk' => by
        simp only [List.mem_cons, List.not_mem_nil, or_false] at hk
        rcases hk with rfl | rfl
        · rw [hr.b] at hk'
          cases hk'
          decide
        · rw [hF] at hk'
          cases hk'
          decide)
      refine .inl ⟨rfl, hW, T2, hN, p1, r', ros ++ [x], es ++ [⟨(lastE es i + x.1) % 18446744073709551616, x, vp, vr⟩], .slice (some ⟨F, 0, none⟩) (i + 1) cap, hm, rep_snoc i p1 r r' ros x hrep hf, by simp [hxl], hr2, ?_, ?_, ?_⟩
      · rw [t2.block b (Kg.heap_lt hb') (by simp [hbR, hbF])]
        exact hb'
      · have := row_last5 (by rw [hfl, hel]) ho' hF hF2
        have e9 : flatE (es ++ [⟨(lastE es i + x.1) % 18446744073709551616, x, vp, vr⟩]) = flatE es ++ [sv (lastE es i) x.1, .int .i64 (x.2.1 : Int), .int .i64 (x.2.2.1 : Int), vp, vr] := by
          simp [flatE, OE.cells, sv]
        rw [e9]
        exact this
      · refine ⟨by simp [hV.l], fun j x' y' hx' hy' => ?_⟩
        by_cases hj : j < i
        · rw [List.getElem?_append_left (by omega)] at hx' hy'
          rw [lastE_append _ _ _ (by omega)]
          exact hst.r j x' y' hx' hy'
        · have e1 := (List.getElem?_eq_some_iff.1 hx').1
          rw [List.length_append] at e1
          simp at e1
          have e2 : j = i := by omega
          subst e2
          rw [List.getElem?_append_right (by omega), hxl, Nat.sub_self] at hx'
          rw [List.getElem?_append_right (by omega), hel, Nat.sub_self] at hy'
          simp at hx' hy'
          subst hx' hy'
          rw [lastE_append _ _ _ (by omega)]
          exact ⟨rfl, rfl, hvp, hvr⟩
  · rintro e w' (⟨rfl, W, hW, N, -, T, hN, p1, r, ros, es, a, hm, hrep, hxl, hr, hb', ho', hV⟩ | ⟨ch, rfl, t, pl, k, he, rfl⟩)
    · refine ⟨up hW T, ?_⟩
      rw [listP_ok hm hrep]
      exact ⟨rfl, hr, a, hb', es, hV, by rw [hxl]; exact Kg.row_base ho' hW.size⟩
    · refine ⟨t, ?_⟩
      rw [he]

end Go.Proofs.YtblbiikfipcbcaaGreatDoor

