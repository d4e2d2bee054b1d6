import Derived.Test.YtkekaifiahjljaaGreatDoorC28
import Derived.Test.YtkekaifiahjljaaGreatDoorC06
import Derived.Test.YtkekaifiahjljaaGreatDoorC27
import Derived.Test.YtkekaifiahjljaaGreatDoorC11
import Derived.RangeFuncNested
import Derived.RangeFuncBound
import Derived.RangeFuncCalls
import Derived.RangeFuncLeaves
import Derived.Shelf.Abstract
import Derived.WalkKit
import Derived.OwnWalkIn
import Derived.TacticsInMore
import Derived.LoopNIn
import Derived.LoopIn
import Derived.Maps.OwnIn
import Derived.Maps.AppendAt
import Derived.Test.YtkekaifiahjljaaGreatDoorC15
set_option linter.unusedVariables false
set_option maxHeartbeats 8000000
set_option maxRecDepth 20000
namespace Go.Proofs.YtkekaifiahjljaaGreatDoor
open Go.RowKit Go.Shelf Go.Proofs.YtkekaifiahjljaaGreatDoor.Lt
theorem heap_chain : ∀ (l : List Obj) (w : World), (l.foldl (fun w o => w.alloc o) w).heap.size = w.heap.size + l.length ∧ Below w.heap.size w (l.foldl (fun w o => w.alloc o) w) ∧ ∀ (i : Nat) o, l[i]? = some o → (l.foldl (fun w o => w.alloc o) w).heap[w.heap.size + i]? = some o
  | [], w => ⟨rfl, Below.refl _ _, fun i o h => by simp at h⟩
  | o :: l, w => by
    have h0 : (w.alloc o).heap.size = w.heap.size + 1 := by simp
    obtain ⟨h1, h2, h3⟩ := heap_chain l (w.alloc o)
    have hb : Below w.heap.size w (w.alloc o) := Below.alloc (Below.refl _ _) (Nat.le_refl _) _
    rw [List.foldl_cons]
    refine ⟨by rw [h1, h0, List.length_cons]; omega, hb.trans (h2.mono hb.size), fun i o' hi => ?_⟩
    cases i with
    | zero =>
      simp only [List.getElem?_cons_zero, Option.some.injEq] at hi
      subst hi
      have h4 : (w.alloc o).heap[w.heap.size]? = some o := by
        show (w.heap.push o)[w.heap.size]? = some o
        exact Array.getElem?_push_size
      exact (h2.block _ (by omega)).trans h4
    | succ i =>
      simp only [List.getElem?_cons_succ] at hi
      have := h3 i o' hi
      rw [h0] at this
      rw [show w.heap.size + (i + 1) = w.heap.size + 1 + i by omega]
      exact this
def exBlocks (B : Nat) : List Obj := [
  .cells (gcs (.slice (some ⟨B + 5, 0, none⟩) 6 6) (.slice (some ⟨B + 8, 0, none⟩) 1 1) (.slice none 0 0) (.slice none 0 0) (.slice none 0 0) 7) 27,
  .cells #[.int .i64 2, .int .i64 3] 3,
  .cells #[.int .i64 4] 3,
  .cells #[.int .i64 4, .int .i64 5] 3,
  .cells #[.int .i64 2, .int .i64 6] 3,
  .cells #[.int .u64 1, .int .i64 1, .int .i64 0, .slice (some ⟨B + 1, 0, none⟩) 2 2, .slice none 0 0, .int .u64 2, .int .i64 1, .int .i64 0, .slice (some ⟨B + 2, 0, none⟩) 1 1, .slice none 0 0, .int .u64 3, .int .i64 1, .int .i64 0, .slice (some ⟨B + 3, 0, none⟩) 2 2, .slice none 0 0, .int .u64 4, .int .i64 1, .int .i64 0, .slice none 0 0, .slice none 0 0, .int .u64 5, .int .i64 3, .int .i64 0, .slice (some ⟨B + 4, 0, none⟩) 2 2, .slice none 0 0, .int .u64 6, .int .i64 1, .int .i64 0, .slice none 0 0, .slice none 0 0] 39,
  .cells #[.int .i64 1] 3,
  .cells #[.slice (some ⟨B + 6, 0, none⟩) 1 1] 24,
  .cells #[.slice (some ⟨B + 7, 0, none⟩) 1 1] 48]
def exOs (B : Nat) : List OL := [⟨⟨1, 1, 0, [2, 3], []⟩, .slice (some ⟨B + 1, 0, none⟩) 2 2, .slice none 0 0⟩, ⟨⟨2, 1, 0, [4], []⟩, .slice (some ⟨B + 2, 0, none⟩) 1 1, .slice none 0 0⟩, ⟨⟨3, 1, 0, [4, 5], []⟩, .slice (some ⟨B + 3, 0, none⟩) 2 2, .slice none 0 0⟩, ⟨⟨4, 1, 0, [], []⟩, .slice none 0 0, .slice none 0 0⟩, ⟨⟨5, 3, 0, [2, 6], []⟩, .slice (some ⟨B + 4, 0, none⟩) 2 2, .slice none 0 0⟩, ⟨⟨6, 1, 0, [], []⟩, .slice none 0 0, .slice none 0 0⟩]
def exTs (B : Nat) : List (Value × List (Value × List Int)) := [(.slice (some ⟨B + 7, 0, none⟩) 1 1, [(.slice (some ⟨B + 6, 0, none⟩) 1 1, [1])])]
theorem ex_lrd {w : World} {n0 b : Nat} {cs : Array Value} {t : TypeId} {k : IntKind} (h : w.heap[b]? = some (.cells cs t (0, 0))) (hb : b < n0) (l : List Int) (hc : cs = (l.map (Value.int k)).toArray) : Lrd n0 w (.slice (some ⟨b, 0, none⟩) l.length l.length) k l := by
  refine ⟨_, _, rfl, Nat.le_refl _, fun f z hz => ⟨b, 0, rfl, hb, ?_⟩⟩
  rw [Kg.heap_cell h, hc, Nat.zero_add, List.getElem?_toArray, List.getElem?_map, hz]
  rfl
theorem lrd_none (n0 : Nat) (w : World) (k : IntKind) : Lrd n0 w (.slice none 0 0) k [] := ⟨none, 0, rfl, Nat.le_refl _, fun f z hz => by simp at hz⟩
theorem ex_grd (w W : World) (hs : W.heap.size = w.heap.size + 9) (h : ∀ (i : Nat) o, (exBlocks w.heap.size)[i]? = some o → W.heap[w.heap.size + i]? = some o) : Grd W.heap.size W (.slice (some ⟨w.heap.size + 5, 0, none⟩) 6 6) (.slice (some ⟨w.heap.size + 8, 0, none⟩) 1 1) (.slice none 0 0) (.slice none 0 0) (.slice none 0 0) (exOs w.heap.size) (exTs w.heap.size) gEx := by
  have h1 := h 1 _ rfl
  have h2 := h 2 _ rfl
  have h3 := h 3 _ rfl
  have h4 := h 4 _ rfl
  have h5 := h 5 _ rfl
  have h6 := h 6 _ rfl
  have h7 := h 7 _ rfl
  have h8 := h 8 _ rfl
  generalize w.heap.size = B at *
  refine ⟨⟨some ⟨B + 5, 0, none⟩, 6, rfl, fun i x hx => ?_⟩, ⟨some ⟨B + 8, 0, none⟩, 1, rfl, fun i x hx => ?_⟩, lrd_none _ _ _, lrd_none _ _ _, lrd_none _ _ _, rfl, rfl, by decide, fun o ho => ?_⟩
  · have hc := fun (j : Nat) => Kg.heap_cell h5 j
    match i with
    | 0 => cases hx; exact ⟨ex_lrd h1 (by omega) [2, 3] rfl, lrd_none _ _ _, B + 5, 0, rfl, by omega, fun j hj => by rw [hc]; match j with | 0 => rfl | 1 => rfl | 2 => rfl | 3 => rfl | 4 => rfl | n + 5 => omega⟩
    | 1 => cases hx; exact ⟨ex_lrd h2 (by omega) [4] rfl, lrd_none _ _ _, B + 5, 0, rfl, by omega, fun j hj => by rw [hc]; match j with | 0 => rfl | 1 => rfl | 2 => rfl | 3 => rfl | 4 => rfl | n + 5 => omega⟩
    | 2 => cases hx; exact ⟨ex_lrd h3 (by omega) [4, 5] rfl, lrd_none _ _ _, B + 5, 0, rfl, by omega, fun j hj => by rw [hc]; match j with | 0 => rfl | 1 => rfl | 2 => rfl | 3 => rfl | 4 => rfl | n + 5 => omega⟩
    | 3 => cases hx; exact ⟨lrd_none _ _ _, lrd_none _ _ _, B + 5, 0, rfl, by omega, fun j hj => by rw [hc]; match j with | 0 => rfl | 1 => rfl | 2 => rfl | 3 => rfl | 4 => rfl | n + 5 => omega⟩
    | 4 => cases hx; exact ⟨ex_lrd h4 (by omega) [2, 6] rfl, lrd_none _ _ _, B + 5, 0, rfl, by omega, fun j hj => by rw [hc]; match j with | 0 => rfl | 1 => rfl | 2 => rfl | 3 => rfl | 4 => rfl | n + 5 => omega⟩
    | 5 => cases hx; exact ⟨lrd_none _ _ _, lrd_none _ _ _, B + 5, 0, rfl, by omega, fun j hj => by rw [hc]; match j with | 0 => rfl | 1 => rfl | 2 => rfl | 3 => rfl | 4 => rfl | n + 5 => omega⟩
    | n + 6 => simp [exOs] at hx
  · match i with
    | 0 =>
      cases hx
      refine ⟨⟨some ⟨B + 7, 0, none⟩, 1, rfl, fun i x hx => ?_⟩, B + 8, 0, rfl, by omega, ?_⟩
      · match i with
        | 0 => cases hx; exact ⟨ex_lrd h6 (by omega) [1] rfl, B + 7, 0, rfl, by omega, by rw [Kg.heap_cell h7]; rfl⟩
        | n + 1 => simp at hx
      · rw [Kg.heap_cell h8]; rfl
    | n + 1 => simp [exTs] at hx
  · simp only [gEx, List.mem_cons, List.not_mem_nil, or_false] at ho
    rcases ho with rfl | rfl | rfl | rfl | rfl | rfl <;> (unfold InI; decide)
theorem example17_any (w : World) :
    Calls Tryz.prog 24 #[] w fun e w' => e = .returned (.agg (gcs (.slice (some ⟨w.heap.size + 5, 0, none⟩) 6 6) (.slice (some ⟨w.heap.size + 8, 0, none⟩) 1 1) (.slice none 0 0) (.slice none 0 0) (.slice none 0 0) gEx.next)) ∧ Grd w'.heap.size w' (.slice (some ⟨w.heap.size + 5, 0, none⟩) 6 6) (.slice (some ⟨w.heap.size + 8, 0, none⟩) 1 1) (.slice none 0 0) (.slice none 0 0) (.slice none 0 0) (exOs w.heap.size) (exTs w.heap.size) gEx ∧ Below w.heap.size w w' := by
  obtain ⟨s1, s2, s3⟩ := heap_chain (exBlocks w.heap.size) w
  have HH : Hid (((exBlocks w.heap.size).foldl (fun w o => w.alloc o) w).heap.size = w.heap.size + 9 ∧ Below w.heap.size w ((exBlocks w.heap.size).foldl (fun w o => w.alloc o) w) ∧ ∀ (i : Nat) o, (exBlocks w.heap.size)[i]? = some o → ((exBlocks w.heap.size).foldl (fun w o => w.alloc o) w).heap[w.heap.size + i]? = some o) := ⟨s1, s2, s3⟩
  clear s1 s2 s3
  go_enter Tryz.func24, Tryz.ntmps24
  go_wp2
  change bodyPost _ _ _ _ _ ((exBlocks w.heap.size).foldl (fun w o => w.alloc o) w)
  generalize (exBlocks w.heap.size).foldl (fun w o => w.alloc o) w = W at *
  have hg := ex_grd w W HH.out.1 HH.out.2.2
  have hc := fun j => Kg.heap_cell (HH.out.2.2 0 _ rfl) j
  rw [Nat.add_zero] at hc
  have c0 := hc 0
  have c1 := hc 1
  have c2 := hc 2
  have c3 := hc 3
  have c4 := hc 4
  have c5 := hc 5
  clear hc
  refine bodyPost_ret (v := .agg (gcs (.slice (some ⟨w.heap.size + 5, 0, none⟩) 6 6) (.slice (some ⟨w.heap.size + 8, 0, none⟩) 1 1) (.slice none 0 0) (.slice none 0 0) (.slice none 0 0) gEx.next)) ?_ rfl ⟨rfl, hg, HH.out.2.1⟩
  unfold results
  go_simp
  rfl
end Go.Proofs.YtkekaifiahjljaaGreatDoor
namespace Go.Proofs.YtkekaifiahjljaaGreatDoor
open Go.RowKit Go.Shelf
def osum (l : List OL) : Nat := (l.map (fun x => x.o.ps.length + x.o.rs.length)).sum
def tsum (l : List (Value × List (Value × List Int))) : Nat := (l.map (fun x => x.2.length + fsum (x.2.map (·.2)))).sum
def szs (os : List OL) (ts : List (Value × List (Value × List Int))) (g : Im.Gr) : Nat := os.length + ts.length + g.hs.length + g.rg.length + g.qu.length
theorem list_choice {α : Type} (P : Nat → α → Prop) : ∀ n, (∀ i, i < n → ∃ x, P i x) → ∃ L : List α, L.length = n ∧ ∀ (i : Nat) x, L[i]? = some x → P i x
  | 0, _ => ⟨[], rfl, fun i x h => by simp at h⟩
  | n + 1, h => by
    obtain ⟨L, hl, hL⟩ := list_choice P n (fun i hi => h i (by omega))
    obtain ⟨x, hx⟩ := h n (Nat.lt_succ_self _)
    refine ⟨L ++ [x], by rw [List.length_append, hl]; rfl, fun i y hy => ?_⟩
    by_cases e : i < n
    · rw [List.getElem?_append_left (by omega)] at hy
      exact hL i y hy
    · have hi := (List.getElem?_eq_some_iff.1 hy).1
      rw [List.length_append, hl] at hi
      simp at hi
      have e2 : i = n := by omega
      subst e2
      rw [List.getElem?_append_right (by omega), hl, Nat.sub_self] at hy
      simp at hy
      rw [← hy]
      exact hx
def obR (o : Im.Ob) : Prop := o.ser < 18446744073709551616 ∧ InI o.kind ∧ InI o.site ∧ ∀ n, n ∈ o.rs → n < 18446744073709551616
def gsz (os : List OL) (ts : List (Value × List (Value × List Int))) (g : Im.Gr) : Nat := szs os ts g + osum os + tsum ts
theorem sum_mem {α : Type} (f : α → Nat) : ∀ (l : List α) x, x ∈ l → f x ≤ (l.map f).sum
  | y :: l, x, h => by
    rw [List.map_cons, List.sum_cons]
    rcases List.mem_cons.1 h with rfl | h
    · omega
    · have := sum_mem f l x h
      omega
section
variable {os : List OL} {ts : List (Value × List (Value × List Int))} {g : Im.Gr}
theorem sln_of (h : gsz os ts g ≤ 1048576) : Sln ts := by
  have ht : ∀ x, x ∈ ts → x.2.length + fsum (x.2.map (·.2)) ≤ tsum ts := sum_mem (fun x : Value × List (Value × List Int) => x.2.length + fsum (x.2.map (·.2))) ts
  unfold gsz szs at h
  exact ⟨by omega, fun x hx => by have := ht x hx; omega⟩
end
section
variable {os : List OL} {ts : List (Value × List (Value × List Int))} {g : Im.Gr}
theorem wsum_le : ∀ (obs : List Im.Ob) n, Im.wsum obs (fun _ => false) n ≤ ((obs.take n).map (·.ps.length)).sum
  | obs, 0 => Nat.zero_le _
  | obs, n + 1 => by
    have ih := wsum_le obs n
    unfold Im.wsum
    cases ho : obs[n]? with
    | none =>
      have hl : obs.length ≤ n := by
        rcases Nat.lt_or_ge n obs.length with h1 | h1
        · rw [List.getElem?_eq_getElem h1] at ho; cases ho
        · exact h1
      rw [List.take_of_length_le (by omega)]
      rw [List.take_of_length_le (by omega)] at ih
      simp only [Bool.false_eq_true, if_false, Option.map_none, Option.getD_none, Nat.add_zero]
      exact ih
    | some o =>
      rw [take_snocL ho, List.map_append, List.sum_append]
      simp only [Bool.false_eq_true, if_false, Option.map_some, Option.getD_some, List.map_cons, List.map_nil, List.sum_cons, List.sum_nil, Nat.add_zero]
      omega
theorem big19_of (h : gsz os ts g ≤ 1048576) (eo : g.obs = os.map (·.o)) (es : g.slots = ts.map (fun t => t.2.map (·.2))) : Big19 os ts g := by
  have h1 : Im.wsum g.obs (fun _ => false) g.obs.length ≤ osum os := by
    refine Nat.le_trans (wsum_le _ _) ?_
    rw [List.take_length, eo, List.map_map]
    clear h eo
    induction os with
    | nil => exact Nat.le_refl _
    | cons x r ih =>
      simp only [osum, List.map_cons, List.sum_cons, Function.comp] at ih ⊢
      omega
  have h2 : (slotsF g.slots).length ≤ tsum ts := by
    rw [es]
    clear h es h1 eo
    induction ts with
    | nil => exact Nat.le_refl _
    | cons x r ih =>
      simp only [slotsF, tsum, List.map_cons, List.flatten_cons, List.sum_cons, List.length_append] at ih ⊢
      have h3 : (x.2.map (·.2)).flatten.length = fsum (x.2.map (·.2)) := by simp [fsum, List.length_flatten]
      omega
  have h3 : (ents g).length = g.hs.length + (g.rg.length + g.qu.length) + (slotsF g.slots).length := by
    simp only [ents, List.length_append]
  have hs := sln_of h
  have h4 : (os.map (·.o.ps.length)).sum ≤ osum os := by
    clear h eo es h1 h2 h3 hs
    induction os with
    | nil => exact Nat.le_refl _
    | cons x r ih =>
      simp only [osum, List.map_cons, List.sum_cons] at ih ⊢
      omega
  have h5 : ∀ x, x ∈ os → x.o.ps.length + x.o.rs.length ≤ osum os := by
    clear h eo es h1 h2 h3 hs h4
    induction os with
    | nil => intro x hx; cases hx
    | cons y r ih =>
      intro x hx
      simp only [osum, List.map_cons, List.sum_cons] at ih ⊢
      rcases List.mem_cons.1 hx with rfl | h6
      · omega
      · have := ih x h6
        omega
  unfold gsz szs at h
  exact ⟨⟨hs, by omega, by omega, by omega, by omega, by omega⟩, hs, by omega, by omega, by omega, fun x hx => by have := h5 x hx; omega⟩
end
end Go.Proofs.YtkekaifiahjljaaGreatDoor
namespace Go.Proofs.YtkekaifiahjljaaGreatDoor
open Go.RowKit Go.Shelf Go.Proofs.YtkekaifiahjljaaGreatDoor.Lp
end Go.Proofs.YtkekaifiahjljaaGreatDoor
namespace Go.Proofs.YtkekaifiahjljaaGreatDoor.Kg
open Go.RowKit Go.Shelf
def OwnS {α : Type} (B : Nat) (J : (Nat → Prop) → List α → World → Prop) : Prop :=
  ∀ S s W W' row, J S s W → W.grownBy W' row → (∀ r, row = some r → B ≤ r ∧ ∃ o : Obj, W.heap[r]? = some o ∧ o.isCells = false) → J (fun k => S k ∨ (W.heap.size ≤ k ∧ k < W'.heap.size)) s W'
def SeqFull {α : Type} (P : Program) (gf : Nat) (lb : Array Value) (encs : α → Array Value) (xs : List α) (n0 : Nat) (Own : Nat → Prop) (w : World) : Prop :=
  ∀ (n l : Nat) (J : (Nat → Prop) → List α → World → Prop) (W : World) (S0 : Nat → Prop), Below w.heap.size w W → (∀ k, Own k → S0 k) → OwnS W.heap.size J →
    (∀ S pre x W1, J S pre W1 → pre ++ [x] <+: xs → ∀ m, YieldAt Fence.wide m P l (encs x) W1 fun e W' => e = .returned (.bool true) ∧ J S (pre ++ [x]) W' ∧ (∀ k, S k → W'.heap[k]? = W1.heap[k]?) ∧ Below n0 W1 W') →
    J S0 [] W → CallsIn Fence.wide n P gf (#[.func (.yield l) #[] #[]] ++ lb) W fun e W' => (∃ v, e = .returned v) ∧ ∃ S, J S xs W'
def goesOn {α : Type} (n0 : Nat) (I : (Nat → Prop) → List α → World → Prop) (S : Nat → Prop) (xs : List α) (W : World) : Exit → Act → World → Prop
  | .normal, _, W' => (∀ k, S k → W'.heap[k]? = W.heap[k]?) ∧ Below n0 W W' ∧ I S xs W'
  | _, _, _ => False
theorem OwnS.alloc {α : Type} {B : Nat} {J : (Nat → Prop) → List α → World → Prop} (h : OwnS B J) {S : Nat → Prop} {s : List α} {W : World} (hs : J S s W) (o : Obj) : J (fun k => S k ∨ (W.heap.size ≤ k ∧ k < (W.alloc o).heap.size)) s (W.alloc o) :=
  h S s W _ none hs (World.grownBy_alloc W o none) (fun r e => by cases e)
theorem OwnS.putObj {α : Type} {B : Nat} {J : (Nat → Prop) → List α → World → Prop} (h : OwnS B J) {S : Nat → Prop} {s : List α} {W : World} {l : Nat} {o : Obj} (o' : Obj) (hs : J S s W) (hB : B ≤ l) (hl : W.heap[l]? = some o) (ho : o.isCells = false) : J S s (W.putObj l o') := by
  have h1 := h S s W (W.putObj l o') (some l) hs (grownBy_putObj' W l o') (fun r e => by cases e; exact ⟨hB, o, hl, ho⟩)
  have h2 : (fun k => S k ∨ (W.heap.size ≤ k ∧ k < (W.putObj l o').heap.size)) = S := by
    funext k
    have : (W.putObj l o').heap.size = W.heap.size := by simp
    simp only [this, eq_iff_iff]
    constructor
    · rintro (h | h)
      · exact h
      · omega
    · exact Or.inl
  rw [h2] at h1
  exact h1
theorem range_full {α : Type} {P : Program} {n : Nat} {g : Operand} {ps : Array Tmp} {assign body : Code} {Q : Exit → Act → World → Prop} {a : Act} {w w0 : World} {gf n0 : Nat} {lb : Array Value} {encs : α → Array Value} {xs : List α} {S0 Own : Nat → Prop}
    (hg : a.eval g = .func (.func gf) #[] lb) (eg : ∀ args w, (callFunc gf args).run P w = .ok (.enter gf args) w) (hseq : SeqFull P gf lb encs xs n0 Own w0) (hOwn : ∀ k, Own k → S0 k) (hb0 : Below w0.heap.size w0 w) (hn0 : n0 ≤ w.heap.size) (hps : ∀ x, (encs x).size = ps.size)
    (I : (Nat → Prop) → List α → World → Prop) (hI : OwnS w.heap.size I) (h0 : I S0 [] w) (a1 : α → Act)
    (hassign : ∀ (l : Nat) (x : α) (W : World) (K : Act → World → Prop) (m : Nat), K (a1 x) W →
      assign.wpIn (Fence.wide.inRound l) m P (Exit.then K (fun _ _ _ => False)) { tmps := (ps.zip (encs x)).foldl (fun t (p, v) => t.setIfInBounds p v) a.tmps, defers := [] } W)
    (hbody : ∀ (l : Nat) (S : Nat → Prop) (pre : List α) (x : α) (W : World) (m : Nat), I S pre W → pre ++ [x] <+: xs → body.wpIn (Fence.wide.inRound l) m P (goesOn n0 I S (pre ++ [x]) W) (a1 x) W)
    (hdone : ∀ (D : Nat) (S : Nat → Prop) (W : World), w.heap.size ≤ D → I S xs W → W.heap[D]? = some (.deferred (some [])) → Q .normal { a with defers := { target := .collected D, args := #[] } :: a.defers } W) :
    (Code.rangeFunc g ps assign body).wpIn Fence.wide n P Q a w := by
  refine wpIn_rangeFunc ?_
  intro fn hfn
  obtain ⟨lp, hlp⟩ : ∃ lp : LoopState → Loop, lp = fun st => { state := st, pending := none, fn, tmps := a.tmps, params := ps, assign, body, defers := w.heap.size } := ⟨_, rfl⟩
  obtain ⟨W1, hW1⟩ : ∃ W1, W1 = (w.alloc (.deferred (some []))).alloc (.loop (lp .ready)) := ⟨_, rfl⟩
  have hL1 : W1.heap[w.heap.size + 1]? = some (.loop (lp .ready)) := by
    have := World.alloc_heap_new (w.alloc (.deferred (some []))) (.loop (lp .ready))
    rw [World.size_alloc] at this; rw [hW1]; exact this
  have hK1 : W1.heap[w.heap.size]? = some (.deferred (some [])) := by
    rw [hW1]; exact (Below.heap_alloc _ _ _ (by simp)).trans (World.alloc_heap_new w _)
  have hsz : W1.heap.size = w.heap.size + 2 := by rw [hW1]; simp
  have hI1 : ∃ S1 : Nat → Prop, I S1 [] W1 ∧ S1 w.heap.size ∧ S1 (w.heap.size + 1) ∧ (∀ k, S0 k → S1 k) := by
    rw [hW1]; exact ⟨_, hI.alloc (hI.alloc h0 _) _, .inl (.inr ⟨Nat.le_refl _, by simp⟩), .inr ⟨by simp, by simp⟩, fun k h => .inl (.inl h)⟩
  obtain ⟨S1, hI1, hd1, he1, hs1⟩ := hI1
  have hb1 : Below w0.heap.size w0 W1 := by
    rw [hW1]; exact (hb0.alloc hb0.size _).alloc (by have := hb0.size; simp; omega) _
  refine ⟨w.heap.size + 1, [{ target := .collected w.heap.size, args := #[] }], W1, { target := .fn (.func gf) lb, args := #[.func (.yield (w.heap.size + 1)) #[] #[]] }, W1, gf,
    #[.func (.yield (w.heap.size + 1)) #[] #[]] ++ lb, W1, ?_, ?_, ?_, ?_, ?_, ?_⟩
  · rw [hW1, hlp]; exact run_enterLoop_outer _ _ _ _ _
  · simp only [resolve, hg]
    simp [go_sem]
  · intro _ _; trivial
  · simp [invoke, go_sem, eg]
  · intro h; cases h
  · -- the two blocks of book-keeping stand beside the caller's invariant
    refine (hseq _ (w.heap.size + 1) (fun S pre W => I S pre W ∧ (S w.heap.size ∧ S (w.heap.size + 1)) ∧ W.heap[w.heap.size + 1]? = some (.loop (lp .ready)) ∧ W.heap[w.heap.size]? = some (.deferred (some []))) W1 S1 hb1 (fun k h => hs1 k (hOwn k h)) ?_ ?_ ⟨hI1, ⟨hd1, he1⟩, hL1, hK1⟩).mono ?_
    · intro S s A B row hs hgr hr
      have hkeep : ∀ k o, k < W1.heap.size → A.heap[k]? = some o → B.heap[k]? = some o := fun k o hk ho =>
        (hgr.block k (Array.getElem?_eq_some_iff.1 ho).1 (fun e => by have := (hr k e.symm).1; omega)).trans ho
      exact ⟨hI S s A B row hs.1 hgr (fun r e => ⟨by have := (hr r e).1; omega, (hr r e).2⟩), ⟨.inl hs.2.1.1, .inl hs.2.1.2⟩, hkeep _ _ (by omega) hs.2.2.1, hkeep _ _ (by omega) hs.2.2.2⟩
    · rintro S pre x W ⟨hi, ⟨hSd, hSl⟩, hl, hk⟩ hpre m
      have hy := run_yield (P := P) (args := encs x) hl (by rw [hlp]; exact hps x)
      rw [hlp] at hy
      refine ⟨fn, _, assign, body, hy, roundIn_of_wpIn hfn (hassign _ x W _ _ ?_)⟩
      clear hy
      have hlt : w.heap.size + 1 < W.heap.size := (Array.getElem?_eq_some_iff.1 hl).1
      refine ⟨_, run_beginRound hl (by rw [hlp]), ?_⟩
      have hl2 : (W.putObj (w.heap.size + 1) (.loop { lp .ready with state := .busy })).heap[w.heap.size + 1]? = some (.loop { lp .ready with state := .busy }) := World.putObj_heap_same hlt
      have hB2 : Below n0 W (W.putObj (w.heap.size + 1) (.loop { lp .ready with state := .busy })) := belowK_b (w := w) hn0 _ _ _ _ (by omega) hl rfl rfl
      have ho2 : ∀ k, k ≠ w.heap.size + 1 → (W.putObj (w.heap.size + 1) (.loop { lp .ready with state := .busy })).heap[k]? = W.heap[k]? := fun k hk => World.putObj_heap_other hk
      refine wpIn_mono (hbody _ S pre x _ _ (hI.putObj _ hi (by omega) hl rfl) hpre) ?_
      rintro e a3 W3 hp
      cases e with
      | normal =>
        obtain ⟨hk3, hb3, hi3⟩ := hp
        have hl3 := (hk3 _ hSl).trans hl2
        have hr := run_endRound (P := P) none hl3
        have hst : { ({ lp .ready with state := .busy } : Loop) with state := if (none : Option Code).isNone then .ready else .done, pending := none } = lp .ready := by rw [hlp]; rfl
        rw [hst] at hr
        have hl4 : (W3.putObj (w.heap.size + 1) (.loop (lp .ready))).heap[w.heap.size + 1]? = some (.loop (lp .ready)) := World.putObj_heap_same (Array.getElem?_eq_some_iff.1 hl3).1
        refine ⟨_, _, hr, rfl, ⟨hI.putObj _ hi3 (by omega) hl3 rfl, ⟨hSd, hSl⟩, hl4, ?_⟩, ?_, (hB2.trans hb3).trans (belowK_b (w := w) hn0 _ _ _ _ (by omega) hl3 rfl rfl)⟩
        · exact (World.putObj_heap_other (by omega)).trans ((hk3 _ hSd).trans ((ho2 _ (by omega)).trans hk))
        · intro k hSk
          by_cases hkl : k = w.heap.size + 1
          · subst hkl; rw [hl4, hl]
          · rw [World.putObj_heap_other hkl, hk3 k hSk, ho2 k hkl]
      | ret => exact hp.elim
      | exit id => exact hp.elim
      | goto t => exact hp.elim
      | panic ch => exact hp.elim
      | outgrown => exact hp.elim
    · rintro e W2 ⟨⟨v, rfl⟩, S, hi, -, hl, hk⟩
      have hr := run_endLoop (P := P) hl (by rw [hlp]; simp)
      refine ⟨_, _, hr, ?_⟩
      have := hdone w.heap.size S _ (Nat.le_refl _) (hI.putObj (.loop { lp .ready with state := .exhausted }) hi (by omega) hl rfl) ((World.putObj_heap_other (by omega)).trans hk)
      rw [hlp] at this ⊢
      exact this
attribute [local go_sem] Oper.semAt_some
def SliceIs (n0 : Nat) (W : World) (sv : Value) (zs : List Int) : Prop :=
  (sv = .slice none 0 0 ∧ zs = []) ∨ ∃ b off cap, sv = .slice (some ⟨b, off, none⟩) zs.length cap ∧ b < n0 ∧ ∀ (j : Nat) x, zs[j]? = some x → W.cell? ⟨b, off + j, none⟩ = some (.int .i64 x)
theorem SliceIs.below {n0 n1 : Nat} {A B : World} {sv : Value} {zs : List Int} (h : Below n1 A B) (hn : n0 ≤ n1) : SliceIs n0 A sv zs → SliceIs n0 B sv zs
  | .inl e => .inl e
  | .inr ⟨b, off, cap, e, hb, hc⟩ => .inr ⟨b, off, cap, e, hb, fun j x hj => (h.cell (p := ⟨b, off + j, none⟩) (by show b < n1; omega)).trans (hc j x hj)⟩
theorem take_snoc {α : Type} {zs : List α} {k : Nat} {x : α} (h : zs[k]? = some x) : zs.take k ++ [x] = zs.take (k + 1) := by
  rw [List.take_add_one, h]; rfl
set_option maxRecDepth 100000 in
theorem valuesI_full (Bs n0 : Nat) (sv : Value) (zs : List Int) (w : World) (hBs : Bs < w.heap.size) (hn0 : n0 ≤ w.heap.size) (hlen : zs.length < 8796093022208) (hc : w.cell? ⟨Bs, 0, none⟩ = some sv) (hI : SliceIs n0 w sv zs) :
    SeqFull Tryz.prog 99 #[.pointer (some ⟨Bs, 0, none⟩)] (fun x : Int => #[Value.int .i64 x]) zs n0 (fun _ => False) w := fun n l J W S0 hW _ hJ hY h0 => by
  have hc' := (hW.cell (p := ⟨Bs, 0, none⟩) hBs).trans hc
  refine callsIn_of_wp Tryz.func99 rfl trivial ?_ rfl
  simp only [Tryz.ntmps99, List.size_toArray, List.length_cons, List.length_nil, Nat.reduceAdd, Nat.reduceSub, Array.replicate_succ, Array.replicate_zero, List.push_toArray, List.append_toArray, List.nil_append, List.cons_append]
  rcases hI.below hW hn0 with ⟨rfl, rfl⟩ | ⟨b, off, cap, rfl, hb, hcs⟩
  · gi_wp2
    gi_loopw [7] (fun i wr => i = .int .i64 0 ∧ J S0 [] wr) (fun _ _ => 0)
    case atStart => exact ⟨rfl, h0⟩
    case round =>
      obtain ⟨rfl, hJs⟩ := hrel
      gi_wp2
      go_end0
      exact ⟨⟨_, rfl⟩, _, hJs⟩
  · gi_wp2
    gi_loopw [7] (fun i wr => ∃ (k : Nat) (S : Nat → Prop), k ≤ zs.length ∧ i = .int .i64 k ∧ J S (zs.take k) wr ∧ Below n0 W wr)
      (fun i _ => zs.length - (intOf i).toNat)
    case atStart => exact ⟨0, S0, Nat.zero_le _, rfl, h0, Below.refl _ _⟩
    case round =>
      obtain ⟨k, S, hk, rfl, hJs, hnx⟩ := hrel
      by_cases hlt : k < zs.length
      · obtain ⟨x, hx⟩ : ∃ x, zs[k]? = some x := ⟨_, List.getElem?_eq_getElem hlt⟩
        have hcx : wr.cell? ⟨b, off + k, none⟩ = some (.int .i64 x) := (hnx.cell (p := ⟨b, off + k, none⟩) hb).trans (hcs k x hx)
        have hsn := take_snoc hx
        obtain ⟨fn, tmps, assign, body, hy, hR⟩ := hY S (zs.take k) x wr hJs (by rw [hsn]; exact List.take_prefix _ _) (n - 1)
        have Hsn : Hid (zs.take k ++ [x] = zs.take (k + 1)) := hsn
        clear hsn hx
        gi_wp2
        refine ⟨fun h => (by cases h), hR.mono ?_⟩
        rintro e W3 ⟨rfl, hJ3, hS3, hk3⟩
        rw [Hsn.out] at hJ3
        gi_wp2
        go_roundw
        case rel => exact ⟨k + 1, S, hlt, by go_num, hJ3, hnx.trans hk3⟩
        case measure => simp [intOf]; omega
      · obtain rfl : k = zs.length := by omega
        rw [List.take_length] at hJs
        gi_wp2
        go_end0
        exact ⟨⟨_, rfl⟩, S, hJs⟩
theorem valuesI_any (a : Option Addr) (len cap : Nat) (w : World) :
    Calls Tryz.prog 54 #[.slice a len cap] w fun e w' => e = .returned (.func (.func 99) #[] #[.pointer (some ⟨w.heap.size, 0, none⟩)]) ∧ w' = w.alloc (.cells #[.slice a len cap] 24) := by
  go_enter Tryz.func54, Tryz.ntmps54
  go_wp2
  go_ret
  exact ⟨rfl, rfl⟩
def Copying {α : Type} (w : World) (tb te : Nat) (enc : α → Value) (S : Nat → Prop) (pre : List α) (W : World) : Prop :=
  ∃ v, Boxed W w.heap.size tb v ∧ W.ownsRow w.heap.size te 1 v pre.length (pre.map enc) ∧ ¬ S w.heap.size ∧ (∀ g, v.ownBlock = some g → ¬ S g) ∧ (∀ k, S k → k < W.heap.size) ∧ Below w.heap.size w W
theorem copying_own {α : Type} (w : World) (tb te : Nat) (enc : α → Value) (B : Nat) (hB : w.heap.size ≤ B) : OwnS B (Copying w tb te enc) := by
  rintro S s X Y row ⟨v, hb, hr, h1, h2, h3, h4⟩ hg hrow
  have hbr : some w.heap.size ≠ row := fun e => by
    obtain ⟨_, o, ho, hc⟩ := hrow _ e.symm
    rw [show X.heap[w.heap.size]? = _ from hb] at ho; cases ho; cases hc
  have hvr : v.ownBlock = none ∨ v.ownBlock ≠ row := by
    rcases hr.2 with ⟨rfl, _⟩ | ⟨g, cap, cur, rfl, _, hgb, _⟩
    · exact .inl rfl
    · refine .inr fun e' => ?_
      obtain ⟨_, o, ho, hc⟩ := hrow g (by simpa [Value.ownBlock] using e'.symm)
      rw [hgb] at ho; cases ho; cases hc
  refine ⟨v, hb.kept hg hbr, hr.kept hg hvr, ?_, ?_, ?_, ?_⟩
  · rintro (h | h)
    · exact h1 h
    · have := hb.lt; omega
  · rintro g e (h | h)
    · exact h2 g e h
    · have := (hr.lt g e).2; omega
  · rintro k (h | h)
    · have := h3 k h; have := hg.size; omega
    · exact h.2
  · exact h4.grown hg h4.size (fun k e => by have := (hrow k e).1; omega)
theorem copying_step {α : Type} {w W w1 : World} {tb te : Nat} {enc : α → Value} {S : Nat → Prop} {pre : List α} {x : α} {v v' : Value} {tmp : Obj} {a : Act} (hte : tb ≠ te) (hv : Boxed W w.heap.size tb v) (hrow : W.ownsRow w.heap.size te 1 v pre.length (pre.map enc))
    (h1 : ¬ S w.heap.size) (h2 : ∀ g, v.ownBlock = some g → ¬ S g) (h3 : ∀ k, S k → k < W.heap.size) (hB : Below w.heap.size w W)
    (hown : w1.ownsRow w.heap.size te 1 v' (pre.length + 1) (pre.map enc ++ [enc x])) (hgrow : (W.alloc tmp).grownBy w1 v.ownBlock) (hat : v'.ownBlock = v.ownBlock ∨ v'.ownBlock = some (W.alloc tmp).heap.size) :
    goesOn w.heap.size (Copying w tb te enc) S (pre ++ [x]) W .normal a (w1.setCell ⟨w.heap.size, 0, none⟩ v') := by
  obtain ⟨hv1, hv2, hr2, hk2, hb2⟩ := hv.appended hte hrow hB.size (Nat.le_refl _) hown hgrow
  refine ⟨fun k hk => ?_, hb2, v', hv2, by simpa using hr2, h1, fun g hg => ?_, fun k hk => ?_, hB.trans hb2⟩
  · have hkl := h3 k hk
    rw [Below.heap_setCell _ _ _ _ (fun e => h1 (by simp at e; rw [← e]; exact hk)), hgrow.block k (by simp; omega) (fun e => h2 k e.symm hk), Below.heap_alloc _ _ _ hkl]
  · rcases hat with e | e
    · exact h2 g (e ▸ hg)
    · rw [e] at hg; cases hg
      intro hS; have := h3 _ hS; simp at this; omega
  · exact Nat.lt_of_lt_of_le (h3 k hk) hb2.size
end Go.Proofs.YtkekaifiahjljaaGreatDoor.Kg
