/-
  PolicyTells: its walk.
-/
import Derived.Test.YtcijdbhabbepaaaGreatDoorPS2
import Derived.Test.YtcijdbhabbepaaaGreatDoorKG14
set_option linter.unusedVariables false
set_option maxRecDepth 20000
namespace Go.Proofs.YtcijdbhabbepaaaGreatDoor.Po
open Go.RowKit Go.Proofs.YtcijdbhabbepaaaGreatDoor.Kg

theorem wpList_load_row_g {P : Program} {ops : Array Oper} {rest : List Oper} {o : Oper} {a : Act} {w : World} {Q : Exit → Act → World → Prop} (hw : Region.wanted o (yielded ops a.tmps) = true) (ty : TypeId) (x : Operand) (ho : o.op = .load ty x)
    (g : Nat) (hx : a.eval x = .pointer (some ⟨g, 0, none⟩)) (t : TypeId) (cs : Array Value) (fr : Nat × Nat) (d : TypeDesc) (hg : w.heap[g]? = some (.cells cs t fr))
    (hu : P.underlying ty = some d) (hd : (match d with | .struct _ | .array _ _ => true | _ => false) = true) (hi : (P.info? ty).map (·.size) = some cs.size)
    (h : wpList P ops Q rest (a.put o.dst (.agg cs)) w) : wpList P ops Q (o :: rest) a w :=
  wpList_step fun K hK => by rw [if_pos hw]; exact wp_load_row ty x ho g hx t cs fr d hg hu hd hi (hK _ _ h)

theorem told_any (x : Ask) {W w : World} {base bb n : Nat} (h : Tb W w base bb n) (hx : AskIn W x) (hbs : W.heap.size ≤ base) (mark : Nat) (hm : mark ≤ 1000000) (hn : n + 2 * x.L.length ≤ 300000000) :
    Calls Tryz.prog 5 #[askv x, .pointer (some ⟨bb, 0, none⟩), .int .i64 mark] w fun e w' => e = .returned (.bool true) ∧ ∃ m, m ≤ n + 2 * x.L.length ∧ Tb W w' base bb m := by
  by_cases fx : flt x.c x.base x.kind x.words = 0
  · refine (told_yes x h hx hbs mark hm fx hn).mono ?_
    rintro e w' ⟨rfl, h'⟩
    exact ⟨rfl, _, Nat.le_refl _, h'⟩
  · refine (told_no x h mark fx).mono ?_
    rintro e w' ⟨rfl, h'⟩
    exact ⟨rfl, n, by omega, h'⟩

theorem Tb.start {W w : World} {base bb : Nat} (hB : Kg.Bk w bb Kg.bk0) (hb : base ≤ bb) (hbe : Below base W w) : Tb W w base bb 0 := by
  have hnn : ∀ (i : Nat) v l, ([none, none] : List (Option (Value × List Int)))[i]? = some (some (v, l)) → False := fun i v l hi => by
    have h2 : ([none, none] : List (Option (Value × List Int))) = List.replicate 2 none := rfl
    rw [h2, List.getElem?_replicate] at hi
    split at hi <;> simp at hi
  exact ⟨⟨Kg.bk0, _, [], [], [], Kg.bok0 hB hb, fun i v l hi => (hnn i v l hi).elim, fun i v l hi => (hnn i v l hi).elim, fun i j v l u m hi => (hnn i v l hi).elim, fun k hk => by simp at hk⟩, stb_tr, stb_tr, True.intro, True.intro, (fun k hk => by cases hk), (fun q hq => by cases hq), (fun q hq => by cases hq), by have := hB.lt; omega, hbe⟩

theorem AskIn.below {w w' : World} {x : Ask} (h : AskIn w x) (hb : Below w.heap.size w w') : AskIn w' x := by
  refine ⟨h.ws, fun i f hf => ?_, h.ln⟩
  obtain ⟨g, off, h1, h2, h3⟩ := (h.vs.below hb) i f hf
  exact ⟨g, off, h1, Nat.lt_of_lt_of_le h2 hb.size, h3⟩

set_option maxHeartbeats 8000000 in
theorem tells_any (x y : Ask) (w : World) (hx : AskIn w x) (hy : AskIn w y) (lx : x.L.length ≤ 10000000) (ly : y.L.length ≤ 10000000) :
    Calls Tryz.prog 3 #[askv x, askv y] w fun e w' => e = .returned (.bool true) ∧ Below w.heap.size w w' := by
  obtain ⟨w0, hw0⟩ : ∃ q9, q9 = (w.alloc (.cells (acells x) 26)).alloc (.cells (acells y) 26) := ⟨_, rfl⟩
  have HX0 : Hid (Abx w0 w.heap.size x) := by rw [hw0]; exact (Below.heap_alloc _ _ _ (by simp)).trans (heap_alloc_new w _)
  have hY0 : Abx w0 (w.heap.size + 1) y := by rw [hw0]; have h := heap_alloc_new (w.alloc (.cells (acells x) 26)) (.cells (acells y) 26); simpa [Abx] using h
  have HY0 : Hid (Abx w0 (w.heap.size + 1) y) := hY0
  have hW0 : Below w.heap.size w w0 := by rw [hw0]; exact Below.alloc (Below.alloc (Below.refl _ _) (Nat.le_refl _) _) (by simp) _
  have HW0 : Hid (Below w.heap.size w w0) := hW0
  have HIx : Hid (AskIn w0 x) := hx.below hW0
  have HIy : Hid (AskIn w0 y) := hy.below hW0
  clear hx hy hW0 hY0
  go_enter Tryz.func3, Tryz.ntmps3
  go_upto_region 1 with fail
  rw [← hw0]
  clear hw0
  go_upto_region 2 with (first | refine Kg.wpList_build0 rfl 43 _ rfl Kg.build_bk0 ?_)
  have hbk : Kg.Bk (w0.alloc (.cells (Kg.bkc Kg.bk0) 43)) w0.heap.size Kg.bk0 := heap_alloc_new w0 _
  have HT0 : Hid (Tb w0 (w0.alloc (.cells (Kg.bkc Kg.bk0) 43)) w0.heap.size w0.heap.size 0) := Tb.start hbk (Nat.le_refl _) (Below.alloc (Below.refl _ _) (Nat.le_refl _) _)
  clear hbk
  generalize (w0.alloc (.cells (Kg.bkc Kg.bk0) 43)) = w1 at HT0 ⊢
  have q := known_any w1
  go_wp2_with fail
  refine q.mono ?_
  rintro e9 w2 ⟨rfl, r4⟩
  have HT2 : Hid (Tb w0 w2 w0.heap.size w0.heap.size 0) := HT0.out.below r4
  clear q r4 HT0
  have HX2 : Hid (w2.heap[w.heap.size]? = some (.cells (acells x) 26 (0, 0))) := HX0.out.below HT2.out.be (heap_lt HX0.out)
  have q := told_any x HT2.out HIx.out (Nat.le_refl _) 1000 (by decide) (by omega)
  go_wp2_with (first | (refine wpList_load_row_g (by rfl) 26 _ rfl w.heap.size rfl _ _ _ _ HX2.out Tryz.underlying26 rfl (by kernel_rfl) ?_) | fail)
  refine q.mono ?_
  rintro e9 w3 ⟨rfl, m, hm, h3⟩
  have HT3 : Hid (Tb w0 w3 w0.heap.size w0.heap.size m) := h3
  clear q h3 HT2 HX2
  have HY3 : Hid (w3.heap[w.heap.size + 1]? = some (.cells (acells y) 26 (0, 0))) := HY0.out.below HT3.out.be (heap_lt HY0.out)
  have q := told_any y HT3.out HIy.out (Nat.le_refl _) 500000 (by decide) (by omega)
  go_wp2_with (first | (refine wpList_load_row_g (by rfl) 26 _ rfl (w.heap.size + 1) rfl _ _ _ _ HY3.out Tryz.underlying26 rfl (by kernel_rfl) ?_) | fail)
  refine q.mono ?_
  rintro e9 w4 ⟨rfl, m', hm', h4⟩
  have HT4 : Hid (Tb w0 w4 w0.heap.size w0.heap.size m') := h4
  clear q h4 HT3 HY3
  have q := HT4.out.hold (by omega)
  go_wp2_with fail
  refine q.mono ?_
  rintro e9 w5 ⟨rfl, h5⟩
  have HZ : Hid (Below w.heap.size w w5) := HW0.out.trans (h5.be.mono HW0.out.size)
  clear q h5 HT4
  go_wp2
  go_returns
  exact ⟨rfl, HZ.out⟩

end Go.Proofs.YtcijdbhabbepaaaGreatDoor.Po
