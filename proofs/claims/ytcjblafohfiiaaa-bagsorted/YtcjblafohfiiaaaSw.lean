/-
  BagSorted's table gone through by its closure.
-/
import Derived.Test.YtcjblafohfiiaaaSc
set_option linter.unusedVariables false
namespace Go.Proofs.Ytcjblafohfiiaaa
open Go.RowKit Go.Shelf

theorem walk_srt (Bl tB okB nB laB lB aB neB foB bt base cap : Nat) (a : Option Addr) (ask : Int) (xs ks vs : List Int) (F : List Nat) (w0 W : World) (hw : WalkedP Try.prog 48 Bl ks vs W)
    (h : Sv tB okB nB laB lB aB neB foB bt 0 (.slice a xs.length cap) ask 0 0 false W) (htab : ITab W base bt ks vs F) (hF : ∀ q, q ∈ [okB, nB, laB, neB, foB] → q ∉ F) (hE : Ent xs xs.length ks vs) (hks : ks.length ≤ xs.length) (hlen : xs.length < 1000)
    (hl : Lists w0 a xs) (hB : Below w0.heap.size w0 W) (hge : ∀ q, q ∈ [okB, nB, laB, neB, foB] → w0.heap.size ≤ q) :
    Calls Try.prog 48 #[.func (.func 22) #[] #[.pointer (some ⟨tB, 0, none⟩), .pointer (some ⟨okB, 0, none⟩), .pointer (some ⟨nB, 0, none⟩), .pointer (some ⟨laB, 0, none⟩), .pointer (some ⟨lB, 0, none⟩), .pointer (some ⟨aB, 0, none⟩), .pointer (some ⟨neB, 0, none⟩), .pointer (some ⟨foB, 0, none⟩)], .pointer (some ⟨Bl, 0, none⟩)] W fun e W' => (∃ r, e = .returned r) ∧
      (∃ last, Sv tB okB nB laB lB aB neB foB bt ks.length (.slice a xs.length cap) ask last (nf ask ks).1 (nf ask ks).2 W') ∧ Touch [okB, nB, laB, neB, foB] W W' := by
  have hlt := h.lt
  have hs : Srt ltI ks := by obtain ⟨_, _, -, -, -, -, -, h, -⟩ := htab; exact h
  refine (hw 22 _ (fun g g' j W2 => (W.heap.size ≤ g ∧ g < W2.heap.size ∧ W.heap.size ≤ g' ∧ g' < W2.heap.size) ∧ Touch [okB, nB, laB, neB, foB] W W2 ∧ ∃ last, Sv tB okB nB laB lB aB neB foB bt j (.slice a xs.length cap) ask last (nf ask (ks.take j)).1 (nf ask (ks.take j)).2 W2 ∧ (j = 0 ∨ ks[j - 1]? = some last))
    (fun g g' j W2 => False) (enters_of Try.func22 (by kernel_rfl) rfl) ?_ ?_).mono ?_
  · intro g g' W1 hB1 hg hg1 hg' hg1'
    have hT : Touch [] W W1 := Touch.of_below hB1 _
    exact ⟨⟨hg, hg1, hg', hg1'⟩, hT.mono (by simp), 0, h.touch hT (by simp), .inl rfl⟩
  · rintro g g' j x v W2 ⟨⟨hg, hg2, hg', hg2'⟩, hT, last, hV, hlast⟩ hx hv
    obtain ⟨m, rfl, hm, hxm, -⟩ := hE j x v hx hv
    obtain ⟨p, hp⟩ := cut_exists sordI hs x
    obtain rfl := hp.found sordI hs j hx
    have hjl : j < ks.length := (List.getElem?_eq_some_iff.1 hx).1
    have htab2 := htab.keep hT (fun q hq hm => hF q hm hq)
    obtain ⟨b, off, rfl, hb, hc⟩ := hl _ x hxm
    have hB2 : Below w0.heap.size w0 W2 := hB.trans (hT.below hB.size hge)
    have hor : j = 0 ∨ last < x := by
      rcases hlast with h | h
      · exact .inl h
      · by_cases h0 : j = 0
        · exact .inl h0
        · have := hs (j - 1) j last x (by omega) h hx
          exact .inr (by simpa [ltI] using this)
    refine (srt1_core tB okB nB laB lB aB neB foB bt j m b off cap ask last _ x _ xs W2 hV (getI_yes bt base j x m ks vs F W2 htab2 (by omega) hp hx hv) ((hB2.cell (p := ⟨b, off + m, none⟩) hb).trans hc) hm hlen (by omega) hor).mono ?_
    rintro e W3 ⟨rfl, hV3, hT3⟩
    have hg3 : ∀ q, W.heap.size ≤ q → q ∉ [okB, nB, laB, neB, foB] := fun q hq hm => by
      have := hlt q (by simp at hm ⊢; omega)
      omega
    refine ⟨hT3.block g hg2 (hg3 g hg), hT3.block g' hg2' (hg3 g' hg'), .inl ⟨rfl, ⟨hg, Nat.lt_of_lt_of_le hg2 hT3.size, hg', Nat.lt_of_lt_of_le hg2' hT3.size⟩, hT.trans hT3, x, ?_, .inr (by simpa using hx)⟩⟩
    rw [← take_snoc hx, nf_snoc]
    by_cases hxa : x ≤ ask
    · simpa [hxa] using hV3
    · simpa [hxa] using hV3
  · rintro e W' ⟨hr, g, g', ⟨-, hT, last, hV, -⟩ | ⟨j, hj, hf⟩⟩
    · rw [List.take_length] at hV
      exact ⟨hr, ⟨last, hV⟩, hT⟩
    · exact hf.elim

end Go.Proofs.Ytcjblafohfiiaaa
