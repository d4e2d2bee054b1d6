/-
  A pair: the program's roots and the document's.
-/
import Derived.Test.YtemdmpfifcihfaaRA3
import Derived.Test.YtemdmpfifcihfaaRA4
import Derived.Test.YtemdmpfifcihfaaR26
import Derived.Deep.RegionHeld3
set_option linter.unusedVariables false
namespace Go.Proofs.Ytemdmpfifcihfaa
open Go.RowKit

/-- The program's roots in block r, the document's in block b, with the same content. -/
structure Pp (W : World) (base r b N : Nat) (S : Sta) (F G : List Nat) : Prop where
  rt : Rts W base r N S F
  rf : Rfs W base b S G
  ap : Apart F G
  ok : S.Ok
  ba : base ≤ W.heap.size

section
variable {W W1 W2 : World} {base r b N : Nat} {S : Sta} {F G : List Nat}

theorem Pp.lt (P : Pp W base r b N S F G) : ∀ k, k ∈ F ++ G → base ≤ k ∧ k < W.heap.size := fun k hk => by
  rcases List.mem_append.1 hk with h | h
  · exact P.rt.mem k h
  · exact P.rf.mem k h

theorem Pp.keep (P : Pp W base r b N S F G) {X : List Nat} (t : Touch X W W1) (ha : Apart (F ++ G) X) : Pp W1 base r b N S F G :=
  ⟨P.rt.keep t (fun k hk => ha k (by simp [hk])), P.rf.keep t (fun k hk => ha k (by simp [hk])), P.ap, P.ok, Nat.le_trans P.ba t.size⟩

theorem Pp.nil (P : Pp W base r b N S F G) (t : Touch [] W W1) : Pp W1 base r b N S F G := P.keep t (fun k _ h => by cases h)

theorem Pp.mid (P : Pp W base r b N S F G) (t : Touch F W W1) : Rfs W1 base b S G := P.rf.keep t (fun k hk hf => P.ap k hf hk)

/-- Behind a pair's call: what may have turned. -/
def Done (W : World) (base r b N : Nat) (S : Sta) (F G : List Nat) (W' : World) : Prop :=
  ∃ N' S' F' G', Pp W' base r b N' S' F' G' ∧ N' ≤ N + 1 ∧ S'.T = S.T ∧ Touch (F ++ G) W W' ∧ Newer W.heap.size (F ++ G) (F' ++ G')

theorem Pp.step (P : Pp W base r b N S F G) {N' : Nat} {S' : Sta} {F' G' : List Nat} (t1 : Touch F W W1) (n1 : Newer W.heap.size F F') (h1 : Rts W1 base r N' S' F') (t2 : Touch G W1 W2) (n2 : Newer W1.heap.size G G') (h2 : Rfs W2 base b S' G') (ok' : S'.Ok) (hN : N' ≤ N + 1) (hT : S'.T = S.T) : Done W base r b N S F G W2 := by
  have hs1 := t1.size
  have a1 : Apart F' G := fun k hk hg => by
    rcases n1 k hk with h | h
    · exact P.ap k h hg
    · have := (P.rf.mem k hg).2; omega
  refine ⟨N', S', F', G', ⟨h1.keep t2 a1, h2, fun k hk hg => ?_, ok', Nat.le_trans P.ba (Nat.le_trans hs1 t2.size)⟩, hN, hT, ?_, fun k hk => ?_⟩
  · rcases n2 k hg with h | h
    · exact a1 k hk h
    · have := (h1.mem k hk).2; omega
  · exact (t1.mono (fun k hk => .inl (by simp [hk]))).trans (t2.mono (fun k hk => .inl (by simp [hk])))
  · rcases List.mem_append.1 hk with h | h
    · rcases n1 k h with h | h
      · left; simp [h]
      · right; exact h
    · rcases n2 k h with h | h
      · left; simp [h]
      · right; omega

theorem Pp.idle (P : Pp W base r b N S F G) (t : Touch [] W W1) : Done W base r b N S F G W1 := ⟨N, S, F, G, P.nil t, by omega, rfl, t.mono (fun k h => by cases h), Newer.refl _ _⟩

theorem Done.before {W0 : World} (h : Done W base r b N S F G W1) (t : Touch [] W0 W) (hs : ∀ k, k ∈ F ++ G → k < W0.heap.size) : Done W0 base r b N S F G W1 := by
  obtain ⟨N', S', F', G', h1, h2, h3, h4, h5⟩ := h
  refine ⟨N', S', F', G', h1, h2, h3, (t.mono (fun k h => by cases h)).trans h4, fun k hk => ?_⟩
  rcases h5 k hk with h | h
  · exact .inl h
  · exact .inr (Nat.le_trans t.size h)
end

/-- A pair and a call in boxes. -/
structure Bx (W : World) (PB OB r b : Nat) (kd t n x : Int) (sec : Bool) (la : Option Addr) (ll lc : Nat) : Prop where
  p : W.heap[PB]? = some (.cells #[.pointer (some ⟨r, 0, none⟩), .pointer (some ⟨b, 0, none⟩)] 61 (0, 0))
  o : W.heap[OB]? = some (.cells #[.int .i64 kd, .int .i64 t, .int .i64 n, .int .i64 x, .bool sec, .slice la ll lc] 48 (0, 0))

section
variable {W W1 : World} {PB OB r b : Nat} {kd t n x : Int} {sec : Bool} {la : Option Addr} {ll lc : Nat}
theorem Bx.touch {X : List Nat} (h : Bx W PB OB r b kd t n x sec la ll lc) (tt : Touch X W W1) (h1 : PB ∉ X) (h2 : OB ∉ X) : Bx W1 PB OB r b kd t n x sec la ll lc :=
  ⟨(tt.block _ (heap_lt h.p) h1).trans h.p, (tt.block _ (heap_lt h.o) h2).trans h.o⟩
theorem Bx.p0 (h : Bx W PB OB r b kd t n x sec la ll lc) : W.cell? ⟨PB, 0, none⟩ = some (.pointer (some ⟨r, 0, none⟩)) := by have := heap_cell h.p 0; simpa using this
theorem Bx.p1 (h : Bx W PB OB r b kd t n x sec la ll lc) : W.cell? ⟨PB, 1, none⟩ = some (.pointer (some ⟨b, 0, none⟩)) := by have := heap_cell h.p 1; simpa using this
theorem Bx.o0 (h : Bx W PB OB r b kd t n x sec la ll lc) : W.cell? ⟨OB, 0, none⟩ = some (.int .i64 kd) := by have := heap_cell h.o 0; simpa using this
theorem Bx.o1 (h : Bx W PB OB r b kd t n x sec la ll lc) : W.cell? ⟨OB, 1, none⟩ = some (.int .i64 t) := by have := heap_cell h.o 1; simpa using this
theorem Bx.o2 (h : Bx W PB OB r b kd t n x sec la ll lc) : W.cell? ⟨OB, 2, none⟩ = some (.int .i64 n) := by have := heap_cell h.o 2; simpa using this
theorem Bx.o3 (h : Bx W PB OB r b kd t n x sec la ll lc) : W.cell? ⟨OB, 3, none⟩ = some (.int .i64 x) := by have := heap_cell h.o 3; simpa using this
theorem Bx.o5 (h : Bx W PB OB r b kd t n x sec la ll lc) : W.cell? ⟨OB, 5, none⟩ = some (.slice la ll lc) := by have := heap_cell h.o 5; simpa using this

theorem Bx.new (w : World) (r b : Nat) (kd t n x : Int) (sec : Bool) (la : Option Addr) (ll lc : Nat) : Bx ((w.alloc (.cells #[.pointer (some ⟨r, 0, none⟩), .pointer (some ⟨b, 0, none⟩)] 61)).alloc (.cells #[.int .i64 kd, .int .i64 t, .int .i64 n, .int .i64 x, .bool sec, .slice la ll lc] 48)) w.heap.size (w.heap.size + 1) r b kd t n x sec la ll lc := by
  refine ⟨(Below.heap_alloc _ _ _ (by simp)).trans (heap_alloc_new w _), ?_⟩
  have := heap_alloc_new (w.alloc (.cells #[.pointer (some ⟨r, 0, none⟩), .pointer (some ⟨b, 0, none⟩)] 61)) (.cells #[.int .i64 kd, .int .i64 t, .int .i64 n, .int .i64 x, .bool sec, .slice la ll lc] 48)
  rwa [World.size_alloc] at this
end
end Go.Proofs.Ytemdmpfifcihfaa
