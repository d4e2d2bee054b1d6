/-
  BagSorted: what the last part of the walk needs.
-/
import Derived.Test.YtcjblafohfiiaaaSs
set_option linter.unusedVariables false
namespace Go.Proofs.Ytcjblafohfiiaaa
open Go.RowKit Go.Shelf

/-- The three variables that are there throughout. -/
structure B3 (aB tB lB bt : Nat) (lv : Value) (ask : Int) (W : World) : Prop where
  a : Boxed W aB 3 (.int .i64 ask)
  t : Boxed W tB 38 (.pointer (some ⟨bt, 0, none⟩))
  l : Boxed W lB 22 lv

theorem B3.touch {aB tB lB bt : Nat} {lv : Value} {ask : Int} {W W' : World} {F : List Nat} (h : B3 aB tB lB bt lv ask W) (ht : Touch F W W') (hF : ∀ q, q ∈ [aB, tB, lB] → q ∉ F) : B3 aB tB lB bt lv ask W' :=
  ⟨box_touch h.a ht (hF _ (by simp)), box_touch h.t ht (hF _ (by simp)), box_touch h.l ht (hF _ (by simp))⟩

theorem B3.lt {aB tB lB bt : Nat} {lv : Value} {ask : Int} {W : World} (h : B3 aB tB lB bt lv ask W) : ∀ q, q ∈ [aB, tB, lB] → q < W.heap.size := by
  intro q hq
  simp at hq
  rcases hq with rfl | rfl | rfl
  · exact h.a.lt
  · exact h.t.lt
  · exact h.l.lt

/-- The five variables of the walk, laid. -/
def five (w : World) : World :=
  ((((w.alloc (.cells #[.int .i64 0] 3)).alloc (.cells #[.int .i64 0] 3)).alloc (.cells #[.int .i64 0] 3)).alloc (.cells #[.bool false] 4)).alloc (.cells #[.bool true] 4)

theorem five_eq (w : World) : ((((w.alloc (.cells #[.int .i64 0] 3)).alloc (.cells #[.int .i64 0] 3)).alloc (.cells #[.int .i64 0] 3)).alloc (.cells #[.bool false] 4)).alloc (.cells #[.bool true] 4) = five w := rfl

theorem five_touch (w : World) : Touch [] w (five w) := (((((Touch.alloc _ _ _).trans (Touch.alloc _ _ _)).trans (Touch.alloc _ _ _)).trans (Touch.alloc _ _ _)).trans (Touch.alloc _ _ _))

theorem five_sv (w : World) {aB tB lB bt : Nat} {lv : Value} {ask : Int} (h : B3 aB tB lB bt lv ask w) :
    Sv tB (w.heap.size + 4) w.heap.size (w.heap.size + 1) lB aB (w.heap.size + 2) (w.heap.size + 3) bt 0 lv ask 0 0 false (five w) := by
  have hf := h.touch (five_touch w) (by simp)
  have la := h.a.lt
  have b0 := Boxed.new w 3 (.int .i64 0)
  have b1 := Boxed.new (w.alloc (.cells #[.int .i64 0] 3)) 3 (.int .i64 0)
  have b2 := Boxed.new ((w.alloc (.cells #[.int .i64 0] 3)).alloc (.cells #[.int .i64 0] 3)) 3 (.int .i64 0)
  have b3 := Boxed.new (((w.alloc (.cells #[.int .i64 0] 3)).alloc (.cells #[.int .i64 0] 3)).alloc (.cells #[.int .i64 0] 3)) 4 (.bool false)
  have b4 := Boxed.new ((((w.alloc (.cells #[.int .i64 0] 3)).alloc (.cells #[.int .i64 0] 3)).alloc (.cells #[.int .i64 0] 3)).alloc (.cells #[.bool false] 4)) 4 (.bool true)
  simp only [World.size_alloc] at b1 b2 b3 b4
  exact ⟨hf.t, b4, (((b0.alloc _).alloc _).alloc _).alloc _, ((b1.alloc _).alloc _).alloc _, hf.l, hf.a, (b2.alloc _).alloc _, b3.alloc _, by omega, by omega, by omega, by omega, by omega, by omega, by omega⟩

theorem getS_gone (l d : List Int) (i b base : Nat) (k : Int) (ks vs : List Int) (F : List Nat) (w : World) (h : Tab l d l.length d.length w base b ks vs F) (hk : l[i]? = some k) (hi : l.length < 1000000) (hG : Gone d d.length k) (n : Nat) :
    Calls Try.prog 23 #[.pointer (some ⟨b, 0, none⟩), .int .i64 k] (w.drewN n) fun e w' => e = .returned (.tuple #[.int .u64 0, .bool false]) ∧ w' = w.drewN n := by
  refine (getS l d i b base k ks vs F (w.drewN n) (h.keep (Touch.drewN [] w n) (by intro k _ h; simp at h)) hk hi).mono ?_
  rintro e w' ⟨⟨_, he⟩ | ⟨hn, _⟩, hw⟩
  · exact ⟨he, hw⟩
  · exact absurd hG hn

theorem getS_there (l d : List Int) (i b base : Nat) (k : Int) (ks vs : List Int) (F : List Nat) (w : World) (h : Tab l d l.length d.length w base b ks vs F) (hk : l[i]? = some k) (hi : l.length < 1000000) (hG : ¬ Gone d d.length k) :
    ∃ m : Nat, i ≤ m ∧ m < l.length ∧ l[m]? = some k ∧ ∀ n, Calls Try.prog 23 #[.pointer (some ⟨b, 0, none⟩), .int .i64 k] (w.drewN n) fun e w' => e = .returned (.tuple #[.int .u64 (m : Int), .bool true]) ∧ w' = w.drewN n := by
  obtain ⟨hs, hl⟩ := h.srt
  obtain ⟨p, hp⟩ := cut_exists sordI hs k
  have hlen := h.len
  have hil : i < l.length := (List.getElem?_eq_some_iff.1 hk).1
  obtain ⟨q, hq⟩ := (h.has i k hil hk).2 hG
  have hf : ks[p]? = some k := by have := hp.found sordI hs q hq; subst this; exact hq
  have hpl : p < ks.length := (List.getElem?_eq_some_iff.1 hf).1
  obtain ⟨v, hv⟩ : ∃ v, vs[p]? = some v := ⟨_, List.getElem?_eq_getElem (by omega)⟩
  obtain ⟨m, rfl, hm, hlm, hlast⟩ := h.ent p k v hf hv
  refine ⟨m, ?_, hm, hlm, fun n => getI_yes b base p k m ks vs F (w.drewN n) (h.keep (Touch.drewN [] w n) (by intro k _ h; simp at h)).tab (by omega) hp hf hv⟩
  by_cases hmi : m < i
  · exact absurd hk (hlast i hmi hil)
  · omega

theorem lenS (l d : List Int) (i j b base : Nat) (ks vs : List Int) (F : List Nat) (w : World) (h : Tab l d i j w base b ks vs F) (n : Nat) :
    Calls Try.prog 25 #[.pointer (some ⟨b, 0, none⟩)] (w.drewN n) fun e w' => e = .returned (.int .i64 ks.length) ∧ w' = w.drewN n := by
  obtain ⟨vk, vv, hh, hb, hr, _⟩ := (h.keep (Touch.drewN [] w n) (by intro k _ h; simp at h)).tab
  exact lenI_any b base ks.length vk _ (w.drewN n) (heap_cell hh 0) hr

theorem gone_step {d : List Int} {j : Nat} {x y : Int} (hy : d[j]? = some y) : Gone d (j + 1) x ↔ Gone d j x ∨ y = x := by
  constructor
  · rintro ⟨t, ht, e⟩
    by_cases h : t < j
    · exact .inl ⟨t, h, e⟩
    · obtain rfl : t = j := by omega
      rw [hy] at e
      exact .inr (Option.some.inj e)
  · rintro (⟨t, ht, e⟩ | rfl)
    · exact ⟨t, by omega, e⟩
    · exact ⟨j, by omega, hy⟩

end Go.Proofs.Ytcjblafohfiiaaa
