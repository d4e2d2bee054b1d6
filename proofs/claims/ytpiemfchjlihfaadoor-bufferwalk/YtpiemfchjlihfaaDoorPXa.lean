import Derived.Test.YtpiemfchjlihfaaDoorBX3
/-
  many: twenty arenas, each with its buffers, beside one another: what is kept of them.
-/
set_option linter.unusedVariables false
set_option maxRecDepth 20000
namespace Go.Proofs.YtpiemfchjlihfaaDoor
open Go.RowKit Go.Shelf

/-- One of the twenty: its blocks, and between which numbers they lie. -/
structure Mw where
  wb : Nat
  b : Nat
  ab : Nat
  ag : Nat
  lo : Nat
  hi : Nat

structure Mw.Is (q : Mw) (w : World) (i : Nat) (d : Bool) : Prop where
  bw : ∃ top ws B, Bw q.lo w q.b q.ab q.ag csm (xt csm top) ws B ∧ B.n = 2 ∧ B.size = 10 + (i % 7 : Nat) ∧ (d = false → top = 1 ∧ B = bfs0 2 (10 + (i % 7 : Nat))) ∧ (d = true → top = 11 + i % 7 ∧ B.at_ 0 = 3 + (i % 5 : Nat) ∧ B.ws 0 = 10 + (i % 7 : Nat) - 2 - (i % 5 : Nat))
  wq : w.heap[q.wb]? = some (.cells #[.pointer (some ⟨q.ab, 0, none⟩), .pointer (some ⟨q.b, 0, none⟩), .int .i64 2, .slice none 0 0] 52 (0, 0))
  lo : q.lo ≤ q.wb
  hi : q.wb < q.hi ∧ q.b < q.hi ∧ q.ab < q.hi ∧ q.ag < q.hi

theorem Mw.Is.below {q : Mw} {w w' : World} {i : Nat} {d : Bool} (h : q.Is w i d) (l : Below w.heap.size w w') : q.Is w' i d := by
  obtain ⟨top, ws, B, h1, h2⟩ := h.bw
  exact ⟨⟨top, ws, B, h1.below l, h2⟩, (l.block _ (Array.getElem?_eq_some_iff.1 h.wq).1).trans h.wq, h.lo, h.hi⟩

theorem Mw.Is.touch {q : Mw} {w w' : World} {i : Nat} {d : Bool} {F : List Nat} (h : q.Is w i d) (l : Touch F w w') (hF : q.wb ∉ F ∧ q.b ∉ F ∧ q.ab ∉ F ∧ q.ag ∉ F) (hg : 1 ∉ F ∧ 0 ∉ F) : q.Is w' i d := by
  obtain ⟨top, ws, B, h1, h2⟩ := h.bw
  exact ⟨⟨top, ws, B, ⟨h1.bf.touch l hF.2.1, h1.ar.touch l hF.2.2.1 hF.2.2.2, h1.ld.touch l hg.1 hg.2, h1.ne, h1.lo, h1.gl, h1.rs⟩, h2⟩, (l.block _ (Array.getElem?_eq_some_iff.1 h.wq).1 hF.1).trans h.wq, h.lo, h.hi⟩

theorem Mw.Is.los {q : Mw} {w : World} {i : Nat} {d : Bool} (h : q.Is w i d) : (q.lo ≤ q.wb ∧ q.wb < q.hi) ∧ (q.lo ≤ q.b ∧ q.b < q.hi) ∧ (q.lo ≤ q.ab ∧ q.ab < q.hi) ∧ (q.lo ≤ q.ag ∧ q.ag < q.hi) ∧ 1 < q.lo ∧ 0 < q.lo := by
  obtain ⟨top, ws, B, h1, h2⟩ := h.bw
  have := h1.lo
  have := h1.gl
  have := h.lo
  have := h.hi
  omega

abbrev mptrs (Qs : List Mw) : List Value := Qs.map fun q => .pointer (some ⟨q.wb, 0, none⟩)

/-- Those that have been made. -/
structure Ml (w0 wr : World) (lv : Value) (Qs : List Mw) (d : Nat → Bool) : Prop where
  be : Below w0.heap.size w0 wr
  row : wr.ownsRow w0.heap.size 45 1 lv Qs.length (mptrs Qs)
  is : ∀ (i : Nat) (q : Mw), Qs[i]? = some q → q.Is wr i (d i)
  lo : ∀ q : Mw, q ∈ Qs → w0.heap.size ≤ q.lo
  hi : ∀ q : Mw, q ∈ Qs → q.hi ≤ wr.heap.size
  gl : 1 < w0.heap.size ∧ 0 < w0.heap.size
  ap : ∀ (i j : Nat) (q r : Mw), Qs[i]? = some q → Qs[j]? = some r → i < j → q.hi ≤ r.lo

theorem Ml.below {w0 wr wr' : World} {lv : Value} {Qs : List Mw} {d : Nat → Bool} (h : Ml w0 wr lv Qs d) (l : Below wr.heap.size wr wr') : Ml w0 wr' lv Qs d :=
  ⟨h.be.trans (l.mono h.be.size), row_keep h.row (fun q hq => l.block q (row_lt h.row q hq)), fun i q hq => (h.is i q hq).below l, h.lo, fun q hq => Nat.le_trans (h.hi q hq) l.size, h.gl, h.ap⟩

/-- The list's block is none of theirs. -/
theorem Ml.own {w0 wr : World} {lv : Value} {Qs : List Mw} {d : Nat → Bool} (h : Ml w0 wr lv Qs d) {i : Nat} {q : Mw} (hq : q.Is wr i (d i)) : q.wb ∉ lv.ownBlock.toList ∧ q.b ∉ lv.ownBlock.toList ∧ q.ab ∉ lv.ownBlock.toList ∧ q.ag ∉ lv.ownBlock.toList := by
  obtain ⟨top, ws, B, h1, h2⟩ := hq.bw
  have ln : ∀ {p t n : Nat} {f : Nat → Value}, wr.rowIs p t n f → t ≠ 45 → p ∉ lv.ownBlock.toList := fun h1 h2 h3 => by
    obtain ⟨c1, e1, _⟩ := h1
    simp only [Option.mem_toList] at h3
    exact row_ne e1 h.row h2 h3.symm
  refine ⟨fun h3 => ?_, ln h1.bf.own (by decide), ln h1.ar.own (by decide), ln h1.ar.row (by decide)⟩
  simp only [Option.mem_toList] at h3
  exact row_ne hq.wq h.row (by decide) h3.symm

/-- One more. -/
theorem Ml.add {w0 wr w1 w2 : World} {lv lv' : Value} {Qs : List Mw} {d : Nat → Bool} {q : Mw} {ob : Obj} (h : Ml w0 wr lv Qs d) (l : Below wr.heap.size wr w1) (hq : q.Is w1 Qs.length (d Qs.length)) (hlo : q.lo = wr.heap.size) (hhi : q.hi = w1.heap.size)
    (hg : (w1.alloc ob).grownBy w2 lv.ownBlock) (hr : w2.ownsRow w0.heap.size 45 1 lv' (Qs.length + 1) (mptrs Qs ++ [.pointer (some ⟨q.wb, 0, none⟩)])) : Ml w0 w2 lv' (Qs ++ [q]) d := by
  have h1 := h.below l
  have hs := hg.size
  simp at hs
  have t1 : Touch lv.ownBlock.toList w1 w2 := ⟨hg.os, hg.tape, hg.output, by omega, fun k hk hn => by
    rw [hg.block k (by simp; omega) (fun e => hn (by rw [← e]; simp))]
    exact Below.heap_alloc _ _ k hk⟩
  have lo1 : ∀ z, z ∈ lv.ownBlock.toList → w0.heap.size ≤ z := fun z hz => by
    simp only [Option.mem_toList] at hz
    rcases h.row.2 with ⟨e1, -⟩ | ⟨g, cap, cur, e1, e2, -⟩
    · rw [e1] at hz
      simp [Value.ownBlock] at hz
    · rw [e1] at hz
      simp [Value.ownBlock] at hz
      omega
  have gl : 1 ∉ lv.ownBlock.toList ∧ 0 ∉ lv.ownBlock.toList := by
    have := h.gl
    exact ⟨fun hm => by have := lo1 _ hm; omega, fun hm => by have := lo1 _ hm; omega⟩
  have cs : ∀ k (Z : Mw), (Qs ++ [q])[k]? = some Z → (Qs[k]? = some Z ∧ k < Qs.length) ∨ (k = Qs.length ∧ Z = q) := fun k Z hz => by
    rcases Nat.lt_trichotomy k Qs.length with hk | hk | hk
    · rw [List.getElem?_append_left hk] at hz
      exact .inl ⟨hz, hk⟩
    · subst hk
      simp at hz
      exact .inr ⟨rfl, hz.symm⟩
    · rw [List.getElem?_eq_none (by simp; omega)] at hz
      cases hz
  refine ⟨h1.be.trans ((t1.below h1.be.size lo1)), ?_, fun i r hi => ?_, fun r hr' => ?_, fun r hr' => ?_, h.gl, fun i j r s hi hj hij => ?_⟩
  · have : mptrs (Qs ++ [q]) = mptrs Qs ++ [.pointer (some ⟨q.wb, 0, none⟩)] := by simp [mptrs]
    rw [this, List.length_append]
    exact hr
  · rcases cs i r hi with ⟨hi', _⟩ | ⟨rfl, rfl⟩
    · exact (h1.is i r hi').touch t1 (h1.own (h1.is i r hi')) gl
    · exact hq.touch t1 (h1.own hq) gl
  · rcases List.mem_append.1 hr' with h2 | h2
    · exact h.lo r h2
    · obtain rfl : r = q := by simpa using h2
      have := h.be.size
      omega
  · rcases List.mem_append.1 hr' with h2 | h2
    · have := h1.hi r h2
      omega
    · obtain rfl : r = q := by simpa using h2
      omega
  · rcases cs i r hi with ⟨hi', hi2⟩ | ⟨rfl, rfl⟩
    · rcases cs j s hj with ⟨hj', _⟩ | ⟨rfl, rfl⟩
      · exact h.ap i j r s hi' hj' hij
      · have := h.hi r (List.mem_of_getElem? hi')
        omega
    · rcases cs j s hj with ⟨hj', hj2⟩ | ⟨rfl, rfl⟩
      · omega
      · omega

/-- One of them lays an object. -/
theorem Ml.put {w0 wr w2 : World} {lv : Value} {Qs : List Mw} {d : Nat → Bool} {k : Nat} {q : Mw} (h : Ml w0 wr lv Qs d) (hk : Qs[k]? = some q) (t : Touch [q.b, q.ab, q.ag] wr w2) (hq : q.Is w2 k true) : Ml w0 w2 lv Qs (fun i => if i = k then true else d i) := by
  have hqi := h.is k q hk
  have lq := hqi.los
  have nm : ∀ z, z ∈ [q.b, q.ab, q.ag] ↔ z = q.b ∨ z = q.ab ∨ z = q.ag := fun z => by simp
  have hlq := h.lo q (List.mem_of_getElem? hk)
  have hown := h.own hqi
  refine ⟨h.be.trans (t.below h.be.size (fun z hz => by rw [nm] at hz; omega)), row_keep h.row (fun y hy => t.block y (row_lt h.row y hy) (fun hm => ?_)), fun i r hi => ?_, h.lo, fun r hr => Nat.le_trans (h.hi r hr) t.size, h.gl, h.ap⟩
  · rw [nm] at hm
    simp only [Option.mem_toList, hy, Option.some.injEq] at hown
    omega
  · by_cases e : i = k
    · subst e
      obtain rfl : r = q := by rw [hk] at hi; exact (Option.some.inj hi).symm
      rw [if_pos rfl]
      exact hq
    · rw [if_neg e]
      have hri := h.is i r hi
      have lr := hri.los
      have : r.hi ≤ q.lo ∨ q.hi ≤ r.lo := by
        rcases Nat.lt_or_gt_of_ne e with h1 | h1
        · exact .inl (h.ap i k r q hi hk h1)
        · exact .inr (h.ap k i q r hk hi h1)
      refine hri.touch t ?_ ?_
      · simp only [nm]
        omega
      · simp only [nm]
        omega

end Go.Proofs.YtpiemfchjlihfaaDoor

/-
  many: its walk.
-/
set_option linter.unusedVariables false
set_option maxRecDepth 20000
namespace Go.Proofs.YtpiemfchjlihfaaDoor
open Go.RowKit Go.Shelf

theorem Tryd.infoW13p : (Tryd.prog.info? 45).map (fun i => (i.zero, i.size, i.bytes)) = some (some (.pointer none), 1, 8) := by kernel_rfl
theorem Tryd.underlying94' : Tryd.prog.underlying 94 = some (.slice 45) := by kernel_rfl

theorem among_lit (a n : Int) (v : Nat) (h0 : 0 ≤ a) (h1 : a < 1000000) (hn : 0 < n ∧ n ≤ 1000000) (hv : a % n = v) (w : World) : Calls Tryd.prog 8 #[.int .i64 a, .int .i64 n] w fun e w' => e = .returned (.int .i64 v) ∧ w = w' := by
  have := among13_any a n (by omega) (by omega) hn w
  rw [if_neg (by omega), hv] at this
  exact this

/-- What Put makes of a new one. -/
theorem Mw.Is.lay {q : Mw} {w : World} {i : Nat} (h : q.Is w i false) : Calls Tryd.prog 10 #[.pointer (some ⟨q.b, 0, none⟩), .pointer (some ⟨q.ab, 0, none⟩), .int .i64 0, hv 1 1 0 (i % 5 : Nat) 0 0 false] w fun e w' => e = .returned (.tuple #[.int .i64 1, .bool true]) ∧ q.Is w' i true ∧ Touch [q.b, q.ab, q.ag] w w' := by
  obtain ⟨top, ws, B, h1, h2, h3, h4, h5⟩ := h.bw
  obtain ⟨rfl, rfl⟩ := h4 rfl
  have := h1.new 0 (by show (0 : Int) < 2; decide) false (plain_hd (i % 5) (by omega)) (by show ¬ ((i % 5 + 2 : Nat) : Int) ≤ 0; omega) (by show ((i % 5 + 2 : Nat) : Int) ≤ 10 + (i % 7 : Nat); omega) (by show ((i % 5 + 2 : Nat) : Int) ≤ 1 + 64 - 1; omega) 1 (10 + i % 7) rfl (by show min (10 + ((i % 7 : Nat) : Int)) (1 + 64 - 1) = ((10 + i % 7 : Nat) : Int); omega)
  refine this.mono ?_
  rintro e w' ⟨rfl, b1, t1⟩
  have lq := h.los
  have hwb : q.wb ∉ [q.b, q.ab, q.ag] := by
    have wn : ∀ {p t n : Nat} {f : Nat → Value}, w.rowIs p t n f → t ≠ 52 → q.wb ≠ p := fun h1 h2 e => by
      obtain ⟨c1, e1, _⟩ := h1
      rw [← e, h.wq] at e1
      injection e1 with e2
      injection e2 with _ e3
      exact h2 e3.symm
    simp only [List.mem_cons, List.not_mem_nil, or_false, not_or]
    exact ⟨wn h1.bf.own (by decide), wn h1.ar.own (by decide), wn h1.ar.row (by decide)⟩
  refine ⟨rfl, ⟨⟨1 + (10 + i % 7), _, _, b1, rfl, rfl, (fun e => nomatch e), fun _ => ⟨by omega, ?_, ?_⟩⟩, (t1.block _ (Array.getElem?_eq_some_iff.1 h.wq).1 hwb).trans h.wq, h.lo, h.hi⟩, t1⟩
  · unfold Bfs.drop
    rw [Bfs.put_at, Bfs.put_ws, Bfs.put_at, if_neg (by omega)]
    omega
  · unfold Bfs.drop
    rw [Bfs.put_ws, Bfs.put_ws]
    omega

/-- One of the list. -/
theorem Ml.cell {w0 wr : World} {a0 : Option Addr} {n cap : Nat} {Qs : List Mw} {d : Nat → Bool} (h : Ml w0 wr (.slice a0 n cap) Qs d) {k : Nat} {q : Mw} (hk : Qs[k]? = some q) : ∃ g, a0 = some ⟨g, 0, none⟩ ∧ g < wr.heap.size ∧ wr.cell? ⟨g, k, none⟩ = some (.pointer (some ⟨q.wb, 0, none⟩)) := by
  have hi := (List.getElem?_eq_some_iff.1 hk).1
  rcases h.row.2 with ⟨h1, h2⟩ | ⟨g, cap', cur, h1, _, hg, hn, _, hs, ht⟩
  · omega
  · simp only [Value.slice.injEq] at h1
    refine ⟨g, h1.1, (Array.getElem?_eq_some_iff.1 hg).1, ?_⟩
    have h3 : (mptrs Qs)[k]? = some (.pointer (some ⟨q.wb, 0, none⟩)) := by simp [mptrs, hk]
    rw [cell_of_row _ _ k _ _ _ hg, ← h3, ← ht, List.getElem?_take, if_pos (by omega), Array.getElem?_toList]

theorem Ml.sl {w0 wr : World} {lv : Value} {Qs : List Mw} {d : Nat → Bool} (h : Ml w0 wr lv Qs d) : ∃ a0 cap, lv = .slice a0 Qs.length cap := by
  rcases h.row.2 with ⟨h1, h2⟩ | ⟨q, cap, cur, h1, _⟩
  · exact ⟨none, 0, by rw [h1, h2]⟩
  · exact ⟨_, _, h1⟩

set_option maxHeartbeats 8000000 in
theorem many_any (w : World) (hL : Laid w) (hg : 1 < w.heap.size ∧ 0 < w.heap.size) :
    Calls Tryd.prog 18 #[] w fun e w' => e = .returned (.bool true) ∧ Below w.heap.size w w' := by
  have HLd : Hid (Laid w ∧ 1 < w.heap.size ∧ 0 < w.heap.size) := ⟨hL, hg⟩
  have H0 : Hid (Ml w w (.slice none 0 0) [] (fun _ => false)) := ⟨Below.refl _ _, World.ownsRow_nil _ _ _ _, (fun i q h => by simp at h), (fun q h => nomatch h), (fun q h => nomatch h), hg, (fun i j q r h => by simp at h)⟩
  obtain ⟨i0, hj, hy0, hy1, hy2⟩ := info_parts Tryd.infoW13p
  clear hL hg
  go_enter Tryd.func18, Tryd.ntmps18
  go_wp2
  go_loopw [1, 2] (fun lv iv wr => ∃ k : Nat, iv = .int .i64 k ∧ k ≤ 20 ∧ ∃ Qs, Hid (Qs.length = k) ∧ Hid (Ml w wr lv Qs (fun _ => false))) (fun _ iv _ => 20 - (intOf iv).toNat)
  case atStart => exact ⟨0, rfl, by omega, [], (rfl : ([] : List Mw).length = 0), H0⟩
  case round =>
    obtain ⟨k, rfl, hk, Qs, HQl, HM⟩ := hrel
    clear H0
    by_cases hkl : k < 20
    · have hki : (k : Int) < 20 := by omega
      have h7 : (k : Int).tmod 7 = ((k % 7 : Nat) : Int) := by rw [Int.tmod_eq_emod_of_nonneg (by omega)]; omega
      have h70 : k % 7 < 7 := Nat.mod_lt _ (by decide)
      obtain ⟨r7, hr7⟩ : ∃ r, r = k % 7 := ⟨_, rfl⟩
      rw [← hr7] at h7 h70
      have Hr7 : Hid (r7 = k % 7) := hr7
      clear hr7
      have q := small_any wr
      go_wp2_with fail
      refine q.mono ?_
      rintro e w1 ⟨rfl, b1⟩
      have HM1 : Hid (Ml w w1 _ Qs (fun _ => false)) := HM.out.below b1
      have HLd1 : Laid w1 := HLd.out.1.keep HM1.out.be
      have hgl1 : 1 < w1.heap.size ∧ 0 < w1.heap.size := by
        have h1 := HM1.out.be.size
        have h2 := HLd.out.2
        exact ⟨Nat.lt_of_lt_of_le h2.1 h1, Nat.lt_of_lt_of_le h2.2 h1⟩
      have q2 := begin_any csm 1 (10 + r7) 1 (10 + r7) 2 (by decide) rfl (by omega) (among_lit 1 8 1 (by decide) (by decide) (by decide) (by decide)) (among_lit (10 + r7) 200 (10 + r7) (by omega) (by omega) (by decide) (by rw [Int.emod_eq_of_lt (by omega) (by omega)]; omega)) w1.heap.size w1 (Nat.le_refl _) HLd1 hgl1
      clear q b1 HLd1 hgl1 HM
      go_wp2_with fail
      refine q2.mono ?_
      rintro e w2 ⟨wb, b, ab, ag, c, rfl, S2, hc, b2, hw2⟩
      obtain rfl : c = csm := by
        rcases hc with h | h
        · exact h.2
        · exact absurd csm_ok h.1
      obtain ⟨q, hq⟩ : ∃ q : Mw, q = ⟨wb, b, ab, ag, w1.heap.size, w2.heap.size⟩ := ⟨_, rfl⟩
      have hqi : q.Is w2 Qs.length false := by
        rw [hq]
        refine ⟨⟨1, _, _, S2.bw, rfl, ?_, fun _ => ⟨rfl, ?_⟩, (fun e => nomatch e)⟩, S2.wq, S2.lo, (Array.getElem?_eq_some_iff.1 S2.wq).1, S2.bw.bf.own.lt, S2.bw.ar.own.lt, S2.bw.ar.row.lt⟩
        · have := HQl.out
          have := Hr7.out
          show ((10 + r7 : Nat) : Int) = 10 + ((Qs.length % 7 : Nat) : Int)
          omega
        · have e1 : ((10 + r7 : Nat) : Int) = 10 + ((Qs.length % 7 : Nat) : Int) := by
            have := HQl.out
            have := Hr7.out
            omega
          rw [e1]
          rfl
      have HQi : Hid (q.Is w2 Qs.length false ∧ q.lo = w1.heap.size ∧ q.hi = w2.heap.size) := ⟨hqi, by rw [hq], by rw [hq]⟩
      have hqw : wb = q.wb := by rw [hq]
      have HB2 : Hid (Below w1.heap.size w1 w2) := b2
      clear q2 S2 hc b2 hw2 hqi hq
      subst hqw
      have HM2 : Hid (Ml w w2 _ Qs (fun _ => false)) := HM1.out.below HB2.out
      obtain ⟨a0, cap0, hu1⟩ := HM2.out.sl
      subst hu1
      have hro := HM2.out.row
      have hQl : Qs.length ≤ 20 := by have := HQl.out; omega
      have hbs := HM2.out.be.size
      go_wp2_with (at_builtin; refine wpList_append_own_at _ rfl _ _ 94 rfl w.heap.size 45 i0 (.pointer none) 1 8 Tryd.underlying94' hj hy0 hy1 hy2 rfl (by decide) _ _ _ rfl (hro.alloc _) ⟨w2.heap.size, 0, none⟩ 1 1 [.pointer (some ⟨q.wb, 0, none⟩)] rfl rfl (cell_one_new _ _ _) (by simp [Value.oneCell']) (by simp [maxLen]; omega) (by omega) (by simp; omega) ?_)
      intro lv' w3 r3 hg3 _ hat3
      have HM3 : Hid (Ml w w3 lv' (Qs ++ [q]) (fun _ => false)) := Ml.add HM1.out HB2.out HQi.out.1 HQi.out.2.1 HQi.out.2.2 hg3 r3
      have HQ3 : Hid ((Qs ++ [q]).length = k + 1) := by show _ = _; rw [List.length_append, HQl.out]; rfl
      clear hro r3 hg3 hat3 HM2 HM1 HB2 HQi hbs hQl
      go_wp2
      go_roundw
      case rel => exact ⟨k + 1, by go_num, by omega, Qs ++ [q], HQ3, HM3⟩
      case measure => simp [intOf]; omega
    · have hki : ¬ (k : Int) < 20 := by omega
      have HQ20 : Hid (Qs.length = 20) := by show _ = _; have := HQl.out; omega
      obtain ⟨a0, cap0, hu1⟩ := HM.out.sl
      have hQl20 : Qs.length = 20 := HQ20.out
      rw [hQl20] at hu1
      subst hu1
      clear hQl20
      have HM0 : Hid (Ml w wr (.slice a0 20 cap0) Qs (fun i => decide (i < 0))) := by
        have : (fun i : Nat => decide (i < 0)) = fun _ => false := by funext i; simp
        rw [this]
        exact HM
      clear HM HQl
      go_wp2
      clear hkl hki hk
      go_loopw [4] (fun iv wr => ∃ m : Nat, iv = .int .i64 m ∧ m ≤ 20 ∧ Hid (Ml w wr (.slice a0 20 cap0) Qs (fun i => decide (i < m)))) (fun iv _ => 20 - (intOf iv).toNat)
      case atStart => exact ⟨0, rfl, by omega, HM0⟩
      case round =>
        obtain ⟨m, rfl, hm, HM⟩ := hrel
        clear HM0
        by_cases hml : m < 20
        · have hmi : (m : Int) < 20 := by omega
          have h5 : (m : Int).tmod 5 = ((m % 5 : Nat) : Int) := by rw [Int.tmod_eq_emod_of_nonneg (by omega)]; omega
          obtain ⟨r5, hr5⟩ : ∃ r, r = m % 5 := ⟨_, rfl⟩
          rw [← hr5] at h5
          have Hr5 : Hid (r5 = m % 5) := hr5
          clear hr5
          obtain ⟨q, hq⟩ : ∃ q, Qs[m]? = some q := ⟨_, List.getElem?_eq_getElem (by have := HQ20.out; omega)⟩
          obtain ⟨g, hga, hgl, hgc⟩ := HM.out.cell hq
          have HQm : Hid (Qs[m]? = some q) := hq
          obtain ⟨v, hv⟩ : ∃ v, v = wr := ⟨_, rfl⟩
          subst hv
          have hwl := (Array.getElem?_eq_some_iff.1 (HM.out.is m q hq).wq).1
          haveI hinh : Inhabited (Kg.Bel v) := ⟨⟨v, Below.refl _ _⟩⟩
          have z0 : ∀ p : Kg.Bel v, p.v.cell? ⟨g, m, none⟩ = some (.pointer (some ⟨q.wb, 0, none⟩)) := fun p => (p.h.cell (p := ⟨g, m, none⟩) hgl).trans hgc
          have z1 : ∀ p : Kg.Bel v, p.v.cell? ⟨q.wb, 0, none⟩ = some (.pointer (some ⟨q.ab, 0, none⟩)) := fun p => (p.h.cell (p := ⟨q.wb, 0, none⟩) hwl).trans (cell_of_row _ _ 0 _ _ _ (HM.out.is m q hq).wq)
          have z2 : ∀ p : Kg.Bel v, p.v.cell? ⟨q.wb, 1, none⟩ = some (.pointer (some ⟨q.b, 0, none⟩)) := fun p => (p.h.cell (p := ⟨q.wb, 1, none⟩) hwl).trans (cell_of_row _ _ 1 _ _ _ (HM.out.is m q hq).wq)
          have HP : Hid (∀ w : World, Calls Tryd.prog 11 #[.int .i64 r5] w fun e w' => e = .returned (hv 1 1 0 r5 0 0 false) ∧ Below w.heap.size w w') := fun w => plain_any r5 w
          subst hga
          clear hgc hq
          go_upto_region 12 with fail
          refine Kg.below_call 17 Kg.mixed (by kernel_rfl) ?_
          simp only [List.take_succ_cons, List.take_zero, List.drop_succ_cons, List.drop_zero]
          repeat (go_big_quiet_step (first | (go_at_call 11; exact Kg.calls_bel (HP.out _))))
          refine wpQuiet_nil ?_
          rintro w4 ⟨⟨w4, b4⟩, rfl⟩
          have HM4 : Hid (Ml w w4 (.slice (some ⟨g, 0, none⟩) 20 cap0) Qs (fun i => decide (i < m))) := HM.out.below b4
          have hqi := HM4.out.is m q HQm.out
          have hdm : decide (m < m) = false := by simp
          rw [hdm] at hqi
          have q5 := hqi.lay
          rw [← Hr5.out] at q5
          clear z0 z1 z2 hinh b4 hqi hdm HP hwl hgl
          go_wp2_with fail
          refine q5.mono ?_
          rintro e w5 ⟨rfl, hqi5, t5⟩
          have HM5 : Hid (Ml w w5 (.slice (some ⟨g, 0, none⟩) 20 cap0) Qs (fun i => decide (i < m + 1))) := by
            have h1 := HM4.out.put HQm.out t5 hqi5
            have h2 : (fun i => if i = m then true else decide (i < m)) = fun i => decide (i < m + 1) := by
              funext i
              by_cases e : i = m
              · rw [if_pos e]; simp; omega
              · rw [if_neg e]
                by_cases e2 : i < m
                · simp [e2]; omega
                · simp [e2]; omega
            rw [h2] at h1
            exact h1
          clear q5 hqi5 t5 HM4 HM
          go_wp2_with fail
          refine Kg.thenQuiet_mk ?_
          repeat (go_big_quiet_step (fail))
          refine wpQuiet_nil ?_
          go_wp2
          go_roundw
          case rel => exact ⟨m + 1, by go_num, by omega, HM5⟩
          case measure => simp [intOf]; omega
        · have hmi : ¬ (m : Int) < 20 := by omega
          have HM0 : Hid (Ml w wr (.slice a0 20 cap0) Qs (fun i => decide (i < m))) := HM
          obtain ⟨v, hv⟩ : ∃ v, v = wr := ⟨_, rfl⟩
          subst hv
          have Hm20 : Hid (m = 20) := by show m = 20; omega
          go_wp2
          clear hmi hml hm HM
          go_loopw [7] (fun iv wr => ∃ z : Int, iv = .int .i64 z ∧ (-1 ≤ z ∧ z < 20) ∧ Hid (Below v.heap.size v wr)) (fun iv _ => (intOf iv + 1).toNat)
          case atStart => exact ⟨19, rfl, by omega, Below.refl _ _⟩
          case round =>
            obtain ⟨z, rfl, hz, HB⟩ := hrel
            by_cases hz0 : 0 ≤ z
            · obtain ⟨j, rfl⟩ : ∃ j : Nat, z = j := ⟨z.toNat, by omega⟩
              have HM6 : Hid (Ml w wr (.slice a0 20 cap0) Qs (fun i => decide (i < m))) := HM0.out.below HB.out
              have h5 : (j : Int).tmod 5 = ((j % 5 : Nat) : Int) := by rw [Int.tmod_eq_emod_of_nonneg (by omega)]; omega
              have h7 : (j : Int).tmod 7 = ((j % 7 : Nat) : Int) := by rw [Int.tmod_eq_emod_of_nonneg (by omega)]; omega
              have h50 : j % 5 < 5 := Nat.mod_lt _ (by decide)
              have h70 : j % 7 < 7 := Nat.mod_lt _ (by decide)
              obtain ⟨r5, hr5⟩ : ∃ r, r = j % 5 := ⟨_, rfl⟩
              obtain ⟨r7, hr7⟩ : ∃ r, r = j % 7 := ⟨_, rfl⟩
              rw [← hr5] at h5 h50
              rw [← hr7] at h7 h70
              have Hr : Hid (r5 = j % 5 ∧ r7 = j % 7) := ⟨hr5, hr7⟩
              clear hr5 hr7
              obtain ⟨q, hq⟩ : ∃ q, Qs[j]? = some q := ⟨_, List.getElem?_eq_getElem (by have := HQ20.out; omega)⟩
              obtain ⟨g, hga, hgl, hgc⟩ := HM6.out.cell hq
              have hqi := HM6.out.is j q hq
              have hdj : decide (j < m) = true := by have := Hm20.out; simp; omega
              rw [hdj] at hqi
              obtain ⟨top, ws, B, bw, hBn, hBs, -, hd⟩ := hqi.bw
              obtain ⟨rfl, hB1, hB2⟩ := hd rfl
              have q1 := brest_yes bw.bf 0 (by rw [hBn]; decide)
              rw [hB1, hB2, ← Hr.out.1, ← Hr.out.2] at q1
              have k1 : wr.cell? ⟨q.wb, 1, none⟩ = some (.pointer (some ⟨q.b, 0, none⟩)) := cell_of_row _ _ 1 _ _ _ hqi.wq
              have hjj : (j : Int) < 20 := by omega
              have HQj : Hid (Qs[j]? = some q ∧ q.Is wr j true) := ⟨hq, hqi⟩
              have HW : Hid (Bw q.lo wr q.b q.ab q.ag csm (xt csm (11 + r7)) ws B) := by rw [Hr.out.2]; exact bw
              subst hga
              clear hq hqi hdj bw hBn hBs hd hB1 hB2
              go_wp2_with fail
              refine q1.mono ?_
              rintro e w7 ⟨rfl, b7⟩
              have k3 : w7.cell? ⟨g, j, none⟩ = some (.pointer (some ⟨q.wb, 0, none⟩)) := (b7.cell (p := ⟨g, j, none⟩) hgl).trans hgc
              have k4 : w7.cell? ⟨q.wb, 0, none⟩ = some (.pointer (some ⟨q.ab, 0, none⟩)) := cell_of_row _ _ 0 _ _ _ (HQj.out.2.below b7).wq
              have q2 := top_any q.ab q.ag csm _ false ws 1 w7 (HW.out.below b7).ar
              have e3 : (xt csm (11 + r7)).top 1 = 11 + (r7 : Int) := by show ((11 + r7 : Nat) : Int) = 11 + (r7 : Int); omega
              rw [e3] at q2
              have HB7 : Hid (Below v.heap.size v w7) := HB.out.trans (b7.mono HB.out.size)
              clear q1 b7 e3 k1 hgc hgl
              go_wp2_with fail
              refine q2.mono ?_
              rintro e w8 ⟨rfl, b8⟩
              have HB8 : Hid (Below v.heap.size v w8) := HB7.out.trans (b8.mono HB7.out.size)
              clear q2 b8 k3 k4
              go_wp2
              go_roundw
              case rel => exact ⟨(j : Int) - 1, rfl, by omega, HB8⟩
              case measure => simp [intOf]
            · have HB9 : Hid (Below w.heap.size w wr) := HM0.out.be.trans (HB.out.mono HM0.out.be.size)
              go_wp2
              go_ret
              exact ⟨rfl, HB9.out⟩

end Go.Proofs.YtpiemfchjlihfaaDoor

