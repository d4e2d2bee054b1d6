/-
  Calls whose answer isn't asked for: the container stays one.
-/
import Derived.Test.YtcjblafohfiiaaaTabK
import Derived.Test.YtcjblafohfiiaaaTa
set_option linter.unusedVariables false
namespace Go.Proofs.Ytcjblafohfiiaaa
open Go.RowKit

theorem cut_exists {α : Type} {lt : α → α → Bool} (ho : SOrd lt) {l : List α} (hs : Srt lt l) (k : α) : ∃ p, CutAt lt l k p := by
  refine ⟨l.findIdx (fun a => !lt a k), List.findIdx_le_length, fun i a hi ha => ?_, fun i a hi ha => ?_⟩
  · have h := List.not_of_lt_findIdx hi
    obtain ⟨hl, rfl⟩ := List.getElem?_eq_some_iff.1 ha
    simpa using h
  · have hl := (List.getElem?_eq_some_iff.1 ha).1
    have hlt : l.findIdx (fun a => !lt a k) < l.length := by omega
    have h := List.findIdx_getElem (w := hlt)
    exact hs.above ho (List.getElem?_eq_getElem hlt) (by simpa using h) i a hi ha

def StkW (W : World) (base b N : Nat) (F : List Nat) : Prop := ∃ xs, Stk W base b 0 xs F ∧ xs.length ≤ N
def QueW (W : World) (base b N : Nat) (F : List Nat) : Prop := ∃ xs, Que W base b 0 N xs F
def ITabW (W : World) (base b N : Nat) (F : List Nat) : Prop := ∃ ks vs, ITab W base b ks vs F ∧ ks.length ≤ N

theorem StkW.mem {W : World} {base b N : Nat} {F : List Nat} (h : StkW W base b N F) : ∀ k, k ∈ F → base ≤ k ∧ k < W.heap.size := by obtain ⟨_, h, _⟩ := h; exact h.mem
theorem QueW.mem {W : World} {base b N : Nat} {F : List Nat} (h : QueW W base b N F) : ∀ k, k ∈ F → base ≤ k ∧ k < W.heap.size := by obtain ⟨_, h⟩ := h; exact h.mem
theorem ITabW.mem {W : World} {base b N : Nat} {F : List Nat} (h : ITabW W base b N F) : ∀ k, k ∈ F → base ≤ k ∧ k < W.heap.size := by obtain ⟨_, _, h, _⟩ := h; exact h.mem
theorem StkW.keep {W W' : World} {base b N : Nat} {F G : List Nat} (h : StkW W base b N F) (ht : Touch G W W') (ha : Apart F G) : StkW W' base b N F := by obtain ⟨xs, h, hn⟩ := h; exact ⟨xs, h.keep ht ha, hn⟩
theorem QueW.keep {W W' : World} {base b N : Nat} {F G : List Nat} (h : QueW W base b N F) (ht : Touch G W W') (ha : Apart F G) : QueW W' base b N F := by obtain ⟨xs, h⟩ := h; exact ⟨xs, h.keep ht ha⟩
theorem ITabW.keep {W W' : World} {base b N : Nat} {F G : List Nat} (h : ITabW W base b N F) (ht : Touch G W W') (ha : Apart F G) : ITabW W' base b N F := by obtain ⟨ks, vs, h, hn⟩ := h; exact ⟨ks, vs, h.keep ht ha, hn⟩

theorem popW (b base N : Nat) (F : List Nat) (w : World) (h : StkW w base b N F) (hN : N < 1000000) :
    Calls Try.prog 14 #[.pointer (some ⟨b, 0, none⟩)] w fun e w' => (∃ r, e = .returned r) ∧ StkW w' base b N F ∧ Touch F w w' := by
  obtain ⟨xs, hs, hn⟩ := h
  rcases List.eq_nil_or_concat xs with rfl | ⟨ys, y, rfl⟩
  · refine (pop_none b base 0 F w hs).mono ?_
    rintro e w' ⟨rfl, rfl⟩
    exact ⟨⟨_, rfl⟩, ⟨_, hs, hn⟩, Touch.refl _ _⟩
  · simp only [List.concat_eq_append, List.length_append, List.length_cons, List.length_nil] at hs hn
    refine (pop_any b base 0 y ys F w hs (by omega)).mono ?_
    rintro e w' ⟨rfl, hs', ht⟩
    exact ⟨⟨_, rfl⟩, ⟨_, hs', by omega⟩, ht⟩

theorem pushW (b base N : Nat) (x : Int) (F : List Nat) (w : World) (h : StkW w base b N F) (hbase : base ≤ w.heap.size) (hN : N < 1000000) :
    Calls Try.prog 11 #[.pointer (some ⟨b, 0, none⟩), .int .i64 x] w fun e w' => (∃ r, e = .returned r) ∧ ∃ F', StkW w' base b (N + 1) F' ∧ Touch F w w' ∧ Newer w.heap.size F F' := by
  obtain ⟨xs, hs, hn⟩ := h
  refine (push_any b base 0 x xs F w hs hbase (by omega) (by simp)).mono ?_
  rintro e w' ⟨rfl, F', hs', ht, hw⟩
  exact ⟨⟨_, rfl⟩, F', ⟨_, hs', by simp; omega⟩, ht, hw⟩

theorem takeW (b base N : Nat) (F : List Nat) (w : World) (h : QueW w base b N F) (hN : N < 1000000) :
    Calls Try.prog 15 #[.pointer (some ⟨b, 0, none⟩)] w fun e w' => (∃ r, e = .returned r) ∧ QueW w' base b N F ∧ Touch F w w' := by
  obtain ⟨xs, hs⟩ := h
  cases xs with
  | nil =>
    refine (take_none b base N 0 F w hs).mono ?_
    rintro e w' ⟨rfl, nq, rfl⟩
    exact ⟨⟨_, rfl⟩, ⟨_, hs.keep (G := []) (Touch.drewN _ _ _) (by intro k _ h; simp at h)⟩, Touch.drewN _ _ _⟩
  | cons x xs =>
    refine (take_any b base N 0 x xs F w hs hN).mono ?_
    rintro e w' ⟨rfl, hs', ht⟩
    exact ⟨⟨_, rfl⟩, ⟨_, hs'⟩, ht⟩

theorem putW (b base N : Nat) (x : Int) (F : List Nat) (w : World) (h : QueW w base b N F) (hbase : base ≤ w.heap.size) (hN : N < 1000000) :
    Calls Try.prog 12 #[.pointer (some ⟨b, 0, none⟩), .int .i64 x] w fun e w' => (∃ r, e = .returned r) ∧ ∃ F', QueW w' base b (N + 1) F' ∧ Touch F w w' ∧ Newer w.heap.size F F' := by
  obtain ⟨xs, hs⟩ := h
  refine (put_any b base N 0 x xs F w hs hbase hN (by simp)).mono ?_
  rintro e w' ⟨rfl, F', hs', ht, hw⟩
  exact ⟨⟨_, rfl⟩, F', ⟨_, hs'⟩, ht, hw⟩

theorem dropW (b base N : Nat) (k : Int) (F : List Nat) (w : World) (h : ITabW w base b N F) (hN : N < 1000000) :
    Calls Try.prog 20 #[.pointer (some ⟨b, 0, none⟩), .int .i64 k] w fun e w' => (∃ r, e = .returned r) ∧ ITabW w' base b N F ∧ Touch F w w' := by
  obtain ⟨ks, vs, hs, hn⟩ := h
  obtain ⟨p, hp⟩ : ∃ p, CutAt ltI ks k p := by obtain ⟨vk, vv, -, -, -, -, -, h, -⟩ := hs; exact cut_exists sordI h k
  by_cases hf : ks[p]? = some k
  · refine (dropI_yes b base p k ks vs F w hs (by omega) hp hf).mono ?_
    rintro e w' ⟨rfl, hs', ht⟩
    exact ⟨⟨_, rfl⟩, ⟨_, _, hs', by rw [del_length _ _ (List.getElem?_eq_some_iff.1 hf).1]; omega⟩, ht⟩
  · refine (dropI_no b base p k ks vs F w hs (by omega) hp hf).mono ?_
    rintro e w' ⟨rfl, rfl⟩
    exact ⟨⟨_, rfl⟩, ⟨_, _, hs, hn⟩, Touch.refl _ _⟩

theorem setW (b base N : Nat) (k v : Int) (F : List Nat) (w : World) (h : ITabW w base b N F) (hbase : base ≤ w.heap.size) (hN : N < 1000000) :
    Calls Try.prog 19 #[.pointer (some ⟨b, 0, none⟩), .int .i64 k, .int .u64 v] w fun e w' => (∃ r, e = .returned r) ∧ ∃ F', ITabW w' base b (N + 1) F' ∧ Touch F w w' ∧ Newer w.heap.size F F' := by
  obtain ⟨ks, vs, hs, hn⟩ := h
  obtain ⟨p, hp⟩ : ∃ p, CutAt ltI ks k p := by obtain ⟨vk, vv, -, -, -, -, -, h, -⟩ := hs; exact cut_exists sordI h k
  by_cases hf : ks[p]? = some k
  · refine (setI_again b base p v k ks vs F w hs (by omega) hp hf).mono ?_
    rintro e w' ⟨rfl, hs', ht⟩
    exact ⟨⟨_, rfl⟩, F, ⟨_, _, hs', by omega⟩, ht, Newer.refl _ _⟩
  · refine (setI_fresh b base p v k ks vs F w hs hbase (by omega) hp hf).mono ?_
    rintro e w' ⟨rfl, F', hs', ht, hw⟩
    exact ⟨⟨_, rfl⟩, F', ⟨_, _, hs', by rw [ins_length _ _ _ hp.1]; omega⟩, ht, hw⟩

end Go.Proofs.Ytcjblafohfiiaaa
