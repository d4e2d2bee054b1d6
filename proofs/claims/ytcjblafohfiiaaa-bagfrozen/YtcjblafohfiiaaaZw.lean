/-
  BagFrozen's three iterators gone through by its closures.
-/
import Derived.Test.YtcjblafohfiiaaaZc
set_option linter.unusedVariables false
namespace Go.Proofs.Ytcjblafohfiiaaa
open Go.RowKit Go.Shelf

/-- The words that BagFrozen lays. -/
def sevTo (n : Nat) : List Int := (List.range n).map (fun i : Nat => (i : Int) + 7)

@[simp] theorem sevTo_length (n : Nat) : (sevTo n).length = n := by simp [sevTo]
theorem sevTo_at {n j : Nat} {x : Int} (h : (sevTo n)[j]? = some x) : x = (j : Int) + 7 := by
  have hj := (List.getElem?_eq_some_iff.1 h).1
  simp [sevTo] at hj
  simp [sevTo, hj] at h
  exact h.symm
theorem sevTo_succ (k : Nat) : ins (sevTo k) k ((k : Int) + 7) = sevTo (k + 1) := by
  simp only [ins]
  rw [List.take_of_length_le (by simp), List.drop_of_length_le (by simp)]
  simp [sevTo, List.range_succ]

theorem setI_seven (b base k : Nat) (F : List Nat) (w : World) (h : ITab w base b (keysTo k) (sevTo k) F) (hbase : base ≤ w.heap.size) (hlen : k < 1000000) :
    Calls Try.prog 19 #[.pointer (some ⟨b, 0, none⟩), .int .i64 k, .int .u64 ((k : Int) + 7)] w fun e w' => e = .returned (.bool true) ∧
      ∃ F', ITab w' base b (keysTo (k + 1)) (sevTo (k + 1)) F' ∧ Touch F w w' ∧ Newer w.heap.size F F' := by
  have := setI_fresh b base k ((k : Int) + 7) k (keysTo k) (sevTo k) F w h hbase (by simpa using hlen) (keysTo_cut k) (fun e => by have := (keysTo_at e).2; omega)
  rw [keysTo_succ, sevTo_succ] at this
  exact this

/-- What stands between two things of an iterator that is gone through by a closure that changes the container: Q says what the container is. -/
def Btw (Q : World → Nat → List Nat → Prop) (okB nB lB cB mB tc : Nat) (lv cv : Value) (more : Int) (F0 : List Nat) (W : World) (gs : List Nat) (k : Nat) (W2 : World) : Prop :=
  (∀ g, g ∈ gs → W.heap.size ≤ g ∧ g < W2.heap.size) ∧ Touch (okB :: nB :: F0) W W2 ∧ Vs okB nB lB cB mB tc k lv cv more W2 ∧ ∃ F, Q W2 k F ∧ Newer W.heap.size F0 F ∧ ∀ g, g ∈ gs → g ∉ F

theorem btw_start {Q : World → Nat → List Nat → Prop} {okB nB lB cB mB tc : Nat} {lv cv : Value} {more : Int} {F0 : List Nat} {W W1 : World} {gs : List Nat} (h : Vs okB nB lB cB mB tc 0 lv cv more W) (hB : Below W.heap.size W W1) (hg : ∀ g, g ∈ gs → W.heap.size ≤ g ∧ g < W1.heap.size)
    (hQ : Q W1 0 F0) (hF0 : ∀ q, q ∈ F0 → q < W.heap.size) : Btw Q okB nB lB cB mB tc lv cv more F0 W gs 0 W1 :=
  ⟨hg, (Touch.of_below hB []).mono (by simp), h.touch (Touch.of_below hB []) (by simp), F0, hQ, Newer.refl _ _, fun g h1 h2 => by have := (hg g h1).1; have := hF0 g h2; omega⟩

theorem btw_step {Q : World → Nat → List Nat → Prop} {okB nB lB cB mB tc k : Nat} {lv cv : Value} {more : Int} {F0 F F' : List Nat} {W W2 W3 : World} {gs : List Nat} (h0 : Vs okB nB lB cB mB tc 0 lv cv more W) (hg : ∀ g, g ∈ gs → W.heap.size ≤ g ∧ g < W2.heap.size) (hT : Touch (okB :: nB :: F0) W W2) (hn : Newer W.heap.size F0 F) (hgF : ∀ g, g ∈ gs → g ∉ F)
    (h3 : Vs okB nB lB cB mB tc (k + 1) lv cv more W3) (hQ : Q W3 (k + 1) F') (hT3 : Touch (okB :: nB :: F) W2 W3) (hn3 : Newer W2.heap.size F F') :
    (∀ g, g ∈ gs → W3.heap[g]? = W2.heap[g]?) ∧ Btw Q okB nB lB cB mB tc lv cv more F0 W gs (k + 1) W3 := by
  have hlo := h0.ok.lt
  have hln := h0.n.lt
  refine ⟨fun g hm => hT3.block g (hg g hm).2 (fun hx => ?_), fun g hm => ⟨(hg g hm).1, Nat.lt_of_lt_of_le (hg g hm).2 hT3.size⟩, hT.then hT3 (fun q hq => ?_), h3, F', hQ, fun q hq => ?_, fun g hm hx => ?_⟩
  · have := (hg g hm).1
    simp only [List.mem_cons] at hx
    rcases hx with rfl | rfl | hx
    · omega
    · omega
    · exact hgF g hm hx
  · simp only [List.mem_cons] at hq ⊢
    rcases hq with rfl | rfl | hq
    · exact .inl (.inl rfl)
    · exact .inl (.inr (.inl rfl))
    · exact (hn q hq).imp_left (fun h => .inr (.inr h))
  · rcases hn3 q hq with h | h
    · exact hn q h
    · exact .inr (Nat.le_trans hT.size h)
  · rcases hn3 g hx with h | h
    · exact hgF g hm h
    · have := (hg g hm).2; omega

theorem btw_away {Q : World → Nat → List Nat → Prop} {okB nB lB cB mB tc : Nat} {lv cv : Value} {more : Int} {F0 F : List Nat} {W : World} (h0 : Vs okB nB lB cB mB tc 0 lv cv more W) (hF : ∀ q, q ∈ [okB, nB, lB, cB, mB] → q ∉ F0) (hn : Newer W.heap.size F0 F) : ∀ q, q ∈ [okB, nB, lB, cB, mB] → q ∉ F := away hF hn h0.lt

theorem walk_fz1 (Bl okB nB lB cB mB bs base L cap : Nat) (a : Option Addr) (more : Int) (xs : List Int) (F0 : List Nat) (w0 W : World) (hw : Walked Try.prog 71 Bl xs.reverse W)
    (h : Vs okB nB lB cB mB 25 0 (.slice a xs.length cap) (.pointer (some ⟨bs, 0, none⟩)) more W) (hst : StkW W base bs L F0) (hF : ∀ q, q ∈ [okB, nB, lB, cB, mB] → q ∉ F0) (hbase : base ≤ W.heap.size) (hlen : xs.length < 1000) (hL : L < 1000)
    (hl : Lists w0 a xs) (hB : Below w0.heap.size w0 W) (hge : ∀ q, q ∈ okB :: nB :: F0 → w0.heap.size ≤ q) :
    Calls Try.prog 71 #[.func (.func 28) #[] #[.pointer (some ⟨okB, 0, none⟩), .pointer (some ⟨nB, 0, none⟩), .pointer (some ⟨lB, 0, none⟩), .pointer (some ⟨cB, 0, none⟩), .pointer (some ⟨mB, 0, none⟩)], .pointer (some ⟨Bl, 0, none⟩)] W fun e W' => (∃ r, e = .returned r) ∧
      Vs okB nB lB cB mB 25 xs.length (.slice a xs.length cap) (.pointer (some ⟨bs, 0, none⟩)) more W' ∧ Touch (okB :: nB :: F0) W W' := by
  refine (hw 28 _ (fun g pre W2 => Btw (fun W2 k F => StkW W2 base bs (L + 2 * k) F) okB nB lB cB mB 25 (.slice a xs.length cap) (.pointer (some ⟨bs, 0, none⟩)) more F0 W [g] pre.length W2) (fun g pre W2 => False) (enters_of Try.func28 (by kernel_rfl) rfl) ?_ ?_).mono ?_
  · intro g W1 hB1 hg hg1
    exact btw_start h hB1 (by simpa using ⟨hg, hg1⟩) (hst.keep (Touch.of_below hB1 []) (by intro k _ h; simp at h)) (fun q hq => (hst.mem q hq).2)
  · rintro g pre x W2 ⟨hg, hT, hV, F, hQ, hn, hgF⟩ hpre
    have hx : xs.reverse[pre.length]? = some x := by obtain ⟨t, ht⟩ := hpre; rw [← ht]; simp
    have hpl : pre.length < xs.length := by have := (List.getElem?_eq_some_iff.1 hx).1; simpa using this
    rw [List.getElem?_reverse hpl] at hx
    obtain ⟨b, off, rfl, hb, hc⟩ := hl _ x hx
    have hB2 : Below w0.heap.size w0 W2 := hB.trans (hT.below hB.size hge)
    refine (fz1_core okB nB lB cB mB bs base pre.length (L + 2 * pre.length) b off cap x more xs F W2 hV hQ (btw_away (Q := fun _ _ _ => True) h hF hn) (Nat.le_trans hbase hT.size) hpl hlen (by omega) ((hB2.cell (p := ⟨b, off + (xs.length - 1 - pre.length), none⟩) hb).trans hc)).mono ?_
    rintro e W3 ⟨rfl, hV3, F', hQ3, hT3, hn3⟩
    have := btw_step (Q := fun W2 k F => StkW W2 base bs (L + 2 * k) F) h hg hT hn hgF hV3 hQ3 hT3 hn3
    exact ⟨this.1 g (by simp), .inl ⟨rfl, by simpa using this.2⟩⟩
  · rintro e W' ⟨hr, g, hJ | ⟨pre, hpre, hf⟩⟩
    · have h1 := hJ.2.2.1
      rw [List.length_reverse] at h1
      exact ⟨hr, h1, hJ.2.1⟩
    · exact hf.elim

theorem walk_fz2 (Bl okB nB lB cB mB bq base L cap : Nat) (a : Option Addr) (more : Int) (xs : List Int) (F0 : List Nat) (w0 W : World) (hw : Walked Try.prog 71 Bl xs W)
    (h : Vs okB nB lB cB mB 29 0 (.slice a xs.length cap) (.pointer (some ⟨bq, 0, none⟩)) more W) (hst : QueW W base bq L F0) (hF : ∀ q, q ∈ [okB, nB, lB, cB, mB] → q ∉ F0) (hbase : base ≤ W.heap.size) (hlen : xs.length < 1000) (hL : L < 1000)
    (hl : Lists w0 a xs) (hB : Below w0.heap.size w0 W) (hge : ∀ q, q ∈ okB :: nB :: F0 → w0.heap.size ≤ q) :
    Calls Try.prog 71 #[.func (.func 29) #[] #[.pointer (some ⟨okB, 0, none⟩), .pointer (some ⟨nB, 0, none⟩), .pointer (some ⟨lB, 0, none⟩), .pointer (some ⟨cB, 0, none⟩), .pointer (some ⟨mB, 0, none⟩)], .pointer (some ⟨Bl, 0, none⟩)] W fun e W' => (∃ r, e = .returned r) ∧
      Vs okB nB lB cB mB 29 xs.length (.slice a xs.length cap) (.pointer (some ⟨bq, 0, none⟩)) more W' ∧ Touch (okB :: nB :: F0) W W' := by
  refine (hw 29 _ (fun g pre W2 => Btw (fun W2 k F => QueW W2 base bq (L + 2 * k) F) okB nB lB cB mB 29 (.slice a xs.length cap) (.pointer (some ⟨bq, 0, none⟩)) more F0 W [g] pre.length W2) (fun g pre W2 => False) (enters_of Try.func29 (by kernel_rfl) rfl) ?_ ?_).mono ?_
  · intro g W1 hB1 hg hg1
    exact btw_start h hB1 (by simpa using ⟨hg, hg1⟩) (hst.keep (Touch.of_below hB1 []) (by intro k _ h; simp at h)) (fun q hq => (hst.mem q hq).2)
  · rintro g pre x W2 ⟨hg, hT, hV, F, hQ, hn, hgF⟩ hpre
    have hx : xs[pre.length]? = some x := by obtain ⟨t, ht⟩ := hpre; rw [← ht]; simp
    have hpl : pre.length < xs.length := (List.getElem?_eq_some_iff.1 hx).1
    obtain ⟨b, off, rfl, hb, hc⟩ := hl _ x hx
    have hB2 : Below w0.heap.size w0 W2 := hB.trans (hT.below hB.size hge)
    refine (fz2_core okB nB lB cB mB bq base pre.length (L + 2 * pre.length) b off cap x more xs F W2 hV hQ (btw_away (Q := fun _ _ _ => True) h hF hn) (Nat.le_trans hbase hT.size) hpl hlen (by omega) ((hB2.cell (p := ⟨b, off + pre.length, none⟩) hb).trans hc)).mono ?_
    rintro e W3 ⟨rfl, hV3, F', hQ3, hT3, hn3⟩
    have := btw_step (Q := fun W2 k F => QueW W2 base bq (L + 2 * k) F) h hg hT hn hgF hV3 hQ3 hT3 hn3
    exact ⟨this.1 g (by simp), .inl ⟨rfl, by simpa using this.2⟩⟩
  · rintro e W' ⟨hr, g, hJ | ⟨pre, hpre, hf⟩⟩
    · exact ⟨hr, hJ.2.2.1, hJ.2.1⟩
    · exact hf.elim

theorem walk_fz3 (Bl okB nB lB cB mB bt base L cap : Nat) (a : Option Addr) (more : Int) (xs : List Int) (F0 : List Nat) (W : World) (hw : WalkedP Try.prog 48 Bl (keysTo xs.length) (sevTo xs.length) W)
    (h : Vs okB nB lB cB mB 38 0 (.slice a xs.length cap) (.pointer (some ⟨bt, 0, none⟩)) more W) (hst : ITabW W base bt L F0) (hF : ∀ q, q ∈ [okB, nB, lB, cB, mB] → q ∉ F0) (hbase : base ≤ W.heap.size) (hlen : xs.length < 1000) (hL : L < 1000) :
    Calls Try.prog 48 #[.func (.func 30) #[] #[.pointer (some ⟨okB, 0, none⟩), .pointer (some ⟨nB, 0, none⟩), .pointer (some ⟨lB, 0, none⟩), .pointer (some ⟨cB, 0, none⟩)], .pointer (some ⟨Bl, 0, none⟩)] W fun e W' => (∃ r, e = .returned r) ∧
      Vs okB nB lB cB mB 38 xs.length (.slice a xs.length cap) (.pointer (some ⟨bt, 0, none⟩)) more W' ∧ Touch (okB :: nB :: F0) W W' := by
  refine (hw 30 _ (fun g g' j W2 => Btw (fun W2 k F => ITabW W2 base bt (L + 2 * k) F) okB nB lB cB mB 38 (.slice a xs.length cap) (.pointer (some ⟨bt, 0, none⟩)) more F0 W [g, g'] j W2) (fun g g' j W2 => False) (enters_of Try.func30 (by kernel_rfl) rfl) ?_ ?_).mono ?_
  · intro g g' W1 hB1 hg hg1 hg' hg1'
    exact btw_start h hB1 (by simpa using ⟨⟨hg, hg1⟩, hg', hg1'⟩) (hst.keep (Touch.of_below hB1 []) (by intro k _ h; simp at h)) (fun q hq => (hst.mem q hq).2)
  · rintro g g' j x v W2 ⟨hg, hT, hV, F, hQ, hn, hgF⟩ hx hv
    obtain ⟨rfl, hj⟩ := keysTo_at hx
    obtain rfl := sevTo_at hv
    refine (fz3_core okB nB lB cB mB bt base j (L + 2 * j) cap a more xs F W2 hV hQ (btw_away (Q := fun _ _ _ => True) h hF hn) (Nat.le_trans hbase hT.size) hj hlen (by omega)).mono ?_
    rintro e W3 ⟨rfl, hV3, F', hQ3, hT3, hn3⟩
    have := btw_step (Q := fun W2 k F => ITabW W2 base bt (L + 2 * k) F) h hg hT hn hgF hV3 hQ3 hT3 hn3
    exact ⟨this.1 g (by simp), this.1 g' (by simp), .inl ⟨rfl, this.2⟩⟩
  · rintro e W' ⟨hr, g, g', hJ | ⟨j, hj, hf⟩⟩
    · have h1 := hJ.2.2.1
      rw [keysTo_length] at h1
      exact ⟨hr, h1, hJ.2.1⟩
    · exact hf.elim

end Go.Proofs.Ytcjblafohfiiaaa
