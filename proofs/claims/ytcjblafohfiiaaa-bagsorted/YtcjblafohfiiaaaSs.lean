/-
  BagSorted's calls of Set, Drop, Near, Get, Len, as its invariants tell them.
-/
import Derived.Test.YtcjblafohfiiaaaSw
set_option linter.unusedVariables false
namespace Go.Proofs.Ytcjblafohfiiaaa
open Go.RowKit Go.Shelf

/-- The table behind the first i things of l, those of the first j of d gone. -/
structure Tab (l d : List Int) (i j : Nat) (W : World) (base b : Nat) (ks vs : List Int) (F : List Nat) : Prop where
  tab : ITab W base b ks vs F
  ent : Ent l i ks vs
  has : Has l i ks (Gone d j)
  len : ks.length ≤ i

theorem Tab.srt {l d : List Int} {i j : Nat} {W : World} {base b : Nat} {ks vs : List Int} {F : List Nat} (h : Tab l d i j W base b ks vs F) : Srt ltI ks ∧ vs.length = ks.length := by
  obtain ⟨_, _, -, -, -, -, h1, h2, -⟩ := h.tab; exact ⟨h2, h1⟩

theorem Tab.keep {l d : List Int} {i j : Nat} {W W' : World} {base b : Nat} {ks vs : List Int} {F G : List Nat} (h : Tab l d i j W base b ks vs F) (ht : Touch G W W') (ha : Apart F G) : Tab l d i j W' base b ks vs F := ⟨h.tab.keep ht ha, h.ent, h.has, h.len⟩

theorem gone_zero (d : List Int) : Gone d 0 = fun _ => False := by
  funext k
  simp [Gone]

theorem setS (l d : List Int) (i b base : Nat) (k : Int) (ks vs : List Int) (F : List Nat) (w : World) (h : Tab l d i 0 w base b ks vs F) (hk : l[i]? = some k) (hi : i < 1000000) (hbase : base ≤ w.heap.size) :
    Calls Try.prog 19 #[.pointer (some ⟨b, 0, none⟩), .int .i64 k, .int .u64 (i : Int)] w fun e w' => (∃ r, e = .returned r) ∧ ∃ ks' vs' F', Tab l d (i + 1) 0 w' base b ks' vs' F' ∧ Touch F w w' ∧ Newer w.heap.size F F' := by
  obtain ⟨hs, hl⟩ := h.srt
  obtain ⟨p, hp⟩ := cut_exists sordI hs k
  have hlen := h.len
  have hh := h.has
  rw [gone_zero] at hh
  by_cases hf : ks[p]? = some k
  · refine (setI_again b base p i k ks vs F w h.tab (by omega) hp hf).mono ?_
    rintro e w' ⟨rfl, hs', ht⟩
    exact ⟨⟨_, rfl⟩, _, _, F, ⟨hs', ent_again h.ent hs hl hp hf hk, by rw [gone_zero]; exact has_again hh hf hk, by omega⟩, ht, Newer.refl _ _⟩
  · refine (setI_fresh b base p i k ks vs F w h.tab hbase (by omega) hp hf).mono ?_
    rintro e w' ⟨rfl, F', hs', ht, hw⟩
    exact ⟨⟨_, rfl⟩, _, _, F', ⟨hs', ent_fresh h.ent hs hl hp hf hk, by rw [gone_zero]; exact has_fresh hh hp.1 hk, by rw [ins_length _ _ _ hp.1]; omega⟩, ht, hw⟩

theorem dropS (l d : List Int) (i j b base : Nat) (k : Int) (ks vs : List Int) (F : List Nat) (w : World) (h : Tab l d i j w base b ks vs F) (hk : d[j]? = some k) (hi : i < 1000000) :
    Calls Try.prog 20 #[.pointer (some ⟨b, 0, none⟩), .int .i64 k] w fun e w' => (∃ r, e = .returned r) ∧ ∃ ks' vs', Tab l d i (j + 1) w' base b ks' vs' F ∧ Touch F w w' := by
  obtain ⟨hs, hl⟩ := h.srt
  obtain ⟨p, hp⟩ := cut_exists sordI hs k
  have hlen := h.len
  by_cases hf : ks[p]? = some k
  · have hpl : p < ks.length := (List.getElem?_eq_some_iff.1 hf).1
    refine (dropI_yes b base p k ks vs F w h.tab (by omega) hp hf).mono ?_
    rintro e w' ⟨rfl, hs', ht⟩
    exact ⟨⟨_, rfl⟩, _, _, ⟨hs', ent_del h.ent hl hpl, has_del h.has hs hp hf hk, by rw [del_length _ _ hpl]; omega⟩, ht⟩
  · refine (dropI_no b base p k ks vs F w h.tab (by omega) hp hf).mono ?_
    rintro e w' ⟨rfl, rfl⟩
    exact ⟨⟨_, rfl⟩, _, _, ⟨h.tab, h.ent, has_nodel h.has hs hp hf hk, hlen⟩, Touch.refl _ _⟩

/-- Near tells what the closure found. -/
theorem nearS (l d : List Int) (i j b base : Nat) (ask : Int) (ks vs : List Int) (F : List Nat) (w : World) (h : Tab l d i j w base b ks vs F) (hi : i < 1000000) :
    Calls Try.prog 24 #[.pointer (some ⟨b, 0, none⟩), .int .i64 ask] w fun e w' => (∃ (k v : Int), e = .returned (.tuple #[.int .i64 k, .int .u64 v, .bool (nf ask ks).2]) ∧ ((nf ask ks).2 = true → k = (nf ask ks).1)) ∧ ∃ nq, w' = w.drewN nq := by
  obtain ⟨hs, hl⟩ := h.srt
  obtain ⟨p, hp⟩ := cut_exists sordI hs ask
  have hlen := h.len
  have up : ∀ (q : Nat) (x : Int), p ≤ q → ks[q]? = some x → ask ≤ x := fun q x hq hx => by
    have := hp.2.2 q x hq hx
    simpa [ltI] using this
  by_cases hf : ks[p]? = some ask
  · have hpl : p < ks.length := (List.getElem?_eq_some_iff.1 hf).1
    have hn : nf ask ks = (ask, true) := nf_some ask ks p ask hf (Int.le_refl _) (fun q x hq hx => by
      have := hs p q ask x (by omega) hf hx
      simpa [ltI] using this)
    refine (nearI_yes b base p p ask ask _ ks vs F w h.tab (by omega) hp (.inl ⟨hf, rfl⟩) hf (List.getElem?_eq_getElem (by omega))).mono ?_
    rintro e w' ⟨rfl, hq⟩
    rw [hn]
    exact ⟨⟨_, _, rfl, fun _ => rfl⟩, hq⟩
  · have up' : ∀ (q : Nat) (x : Int), p ≤ q → ks[q]? = some x → ask < x := fun q x hq hx => by
      have h1 := up q x hq hx
      have h2 : x ≠ ask := fun e => not_key hs hp hf q (e ▸ hx)
      omega
    by_cases h0 : p = 0
    · subst h0
      have hn : nf ask ks = (0, false) := nf_none ask ks (fun q x hx => up' q x (by omega) hx)
      refine (nearI_no b base ask ks vs F w h.tab (by omega) hp hf).mono ?_
      rintro e w' ⟨rfl, rfl⟩
      rw [hn]
      exact ⟨⟨0, 0, rfl, fun h => by cases h⟩, 0, rfl⟩
    · have hpl := hp.1
      obtain ⟨x, hx⟩ : ∃ x, ks[p - 1]? = some x := ⟨_, List.getElem?_eq_getElem (by omega)⟩
      have hxl := hp.2.1 (p - 1) x (by omega) hx
      have hxa : x ≤ ask := by simp [ltI] at hxl; omega
      have hn : nf ask ks = (x, true) := nf_some ask ks (p - 1) x hx hxa (fun q y hq hy => up' q y (by omega) hy)
      refine (nearI_yes b base p (p - 1) ask x _ ks vs F w h.tab (by omega) hp (.inr ⟨hf, by omega⟩) hx (List.getElem?_eq_getElem (by omega))).mono ?_
      rintro e w' ⟨rfl, hq⟩
      rw [hn]
      exact ⟨⟨_, _, rfl, fun _ => rfl⟩, hq⟩

/-- Get of a thing of l: gone, or the last place where it stands. -/
theorem getS (l d : List Int) (i b base : Nat) (k : Int) (ks vs : List Int) (F : List Nat) (w : World) (h : Tab l d l.length d.length w base b ks vs F) (hk : l[i]? = some k) (hi : l.length < 1000000) :
    Calls Try.prog 23 #[.pointer (some ⟨b, 0, none⟩), .int .i64 k] w fun e w' => ((Gone d d.length k ∧ e = .returned (.tuple #[.int .u64 0, .bool false])) ∨
      (¬ Gone d d.length k ∧ ∃ m : Nat, i ≤ m ∧ m < l.length ∧ l[m]? = some k ∧ e = .returned (.tuple #[.int .u64 (m : Int), .bool true]))) ∧ w' = w := by
  obtain ⟨hs, hl⟩ := h.srt
  obtain ⟨p, hp⟩ := cut_exists sordI hs k
  have hlen := h.len
  have hil : i < l.length := (List.getElem?_eq_some_iff.1 hk).1
  by_cases hf : ks[p]? = some k
  · have hpl : p < ks.length := (List.getElem?_eq_some_iff.1 hf).1
    obtain ⟨v, hv⟩ : ∃ v, vs[p]? = some v := ⟨_, List.getElem?_eq_getElem (by omega)⟩
    obtain ⟨m, rfl, hm, hlm, hlast⟩ := h.ent p k v hf hv
    refine (getI_yes b base p k m ks vs F w h.tab (by omega) hp hf hv).mono ?_
    rintro e w' ⟨rfl, rfl⟩
    refine ⟨.inr ⟨(h.has i k hil hk).1 ⟨p, hf⟩, m, ?_, hm, hlm, rfl⟩, rfl⟩
    by_cases hmi : m < i
    · exact absurd hk (hlast i hmi hil)
    · omega
  · refine (getI_no b base p k ks vs F w h.tab (by omega) hp hf).mono ?_
    rintro e w' ⟨rfl, rfl⟩
    refine ⟨.inl ⟨Classical.byContradiction fun hg => ?_, rfl⟩, rfl⟩
    obtain ⟨q, hq⟩ := (h.has i k hil hk).2 hg
    exact not_key hs hp hf q hq

end Go.Proofs.Ytcjblafohfiiaaa
